import PyProof.Rows.All
import Wide.All
import OpenK.AllK
import Wide.FinOn
import HandS.ForMost
import HandS.TupAny
import HandS.Style
import HandS.Conv
import HandS.Gcd
import HandS.RaiseMore
import HandS.Walk
import KE.GoesEnum
import KE.GoesNew
import HandS.Zip
import HandS.TupMul
import HandS.Wide
import HandS.NoneIn
import HandS.IsInst
import HandS.Strs
import HandS.SetFor
import KE.KMathG
import HandS.SetBool
import HandS.SortInts
import HandS.DictComp
import HandS.Deep
import HandS.SortRule
import HandS.TupSets
import HandS.Exc
import HandS.ExcOwn
import HandS.ExcInit
import HandS.ExcField
import HandS.TryOnly
import HandS.WordsExc
import HandS.ExcIs
import KE.KExcIs
import KE.KIsAll
import PyProof.ReprRoads
import KE.KEqNest
import KE.LtSeq
import HandS.HeadHook3
import KE.KDictSum
import PyProof.TupleOfSeq
import PySem.Challenge.RW_windways_k16_reductions_done
set_option Elab.async false
set_option linter.all false
set_option maxRecDepth 100000
set_option maxHeartbeats 4000000
section
open PySem PySem.W PyProof.Rows
set_option maxHeartbeats 0
open_top top_hd for PySem.Challenge.rw_windways_k16_reductions_done
end
set_option Elab.async false
set_option linter.all false
set_option maxRecDepth 100000
set_option maxHeartbeats 4000000
namespace MS
open PySem PySem.Spec PyProof.Rows L2
inductive D where
  | non | bl (b : Bool) | int (i : Int) | str (x : Str) | tup (ds : List D) | lr (n : Nat)
  /-- a list, a dict, an instance that nobody will change any more, by value; a def, a class -/
  | lst (ds : List D) | fl (ds : List D) | dk (ks : List Key) (ds : List D) | dt (ks : List (List Key)) (ds : List D) | ins (c : Addr) (ks : List Str) (ds : List D) | fn (a : Addr)
inductive MO where
  | lst (ds : List D) | dk (kvs : List (Key × D)) | dt (kvs : List (List Key × D)) | ins (c : Addr) (kvs : List (Str × D)) | gone
def MO.mut : MO → Bool
  | .gone => false
  | _ => true
inductive Mt : HO → Prop
  | lst (xs : List V) : Mt (.lst xs)
  | dk (kvs : List (Key × V)) : Mt (.dK kvs)
  | dt (kvs : List (List Key × V)) : Mt (.dT kvs)
  | ins (c dx : Addr) (kvs : List (Str × V)) : Mt (.ins c dx kvs)
abbrev Store := List MO
abbrev Ev := List (Option D)
structure Mu where
  h : List Addr
  lv : List Addr
def Mu.add (μ : Mu) (p : Addr) : Mu := ⟨μ.h ++ [p], μ.lv ++ [p]⟩
theorem Mu.new {μ : Mu} {p : Addr} : (μ.add p).h[μ.h.length]? = some p := List.getElem?_concat_length
def Mu.drop (μ : Mu) (p : Addr) : Mu := ⟨μ.h, μ.lv.filter fun a => decide (a ≠ p)⟩
def FzL (K : PySem.W.Frag) (H : Hp) (a : Addr) (xs : List V) : Prop :=
  (∃ o, H a = some (.frz o (.lst xs))) ∨ ∃ (o : Obj) (its : Array Value) (n : Nat), K.lookup a = some o ∧ o.cls = .type "list" ∧ o.dict = none ∧ o.data = .seq its n ∧ its.size ≤ sizeLine ∧ Vals xs its.toList
section rep
variable (K : PySem.W.Frag) (H : Hp) (μ : Mu)
def LsV (a : Addr) (xs : List V) : Prop := H a = some (.lst xs) ∧ a ∉ μ.lv
def KT (K : PySem.W.Frag) (a : Addr) (xs : List V) : Prop := (∃ x, xs = [.str x]) ∧ ∃ (o : Obj) (its : Array Value) (n : Nat), K.lookup a = some o ∧ o.cls = .type "tuple" ∧ o.data = .seq its n ∧ its.size ≤ sizeLine ∧ Vals xs its.toList
def OwnT (K : PySem.W.Frag) (H : Hp) (a : Addr) (xs : List V) : Prop := H a = some (.tup xs) ∨ KT K a xs
mutual
inductive Rp : V → D → Prop
  | non : Rp .non .non
  | bl (b : Bool) : Rp (.bl b) (.bl b)
  | int (i : Int) : Rp (.int i) (.int i)
  | str (x : Str) : Rp (.str x) (.str x)
  | tup {a : Addr} {xs : List V} {ds : List D} : OwnT K H a xs → RpA xs ds → Rp (.ref a) (.tup ds)
  | lr {a : Addr} {n : Nat} : μ.h[n]? = some a → Rp (.ref a) (.lr n)
  | lst {a : Addr} {xs : List V} {ds : List D} : LsV H μ a xs → RpA xs ds → Rp (.ref a) (.lst ds)
  | fl {a : Addr} {xs : List V} {ds : List D} : FzL K H a xs → RpA xs ds → Rp (.ref a) (.fl ds)
  | dk {a : Addr} {ks : List Key} {xs : List V} {ds : List D} : H a = some (.dK (ks.zip xs)) → a ∉ μ.lv → ks.length = xs.length → RpA xs ds → Rp (.ref a) (.dk ks ds)
  | dt {a : Addr} {ks : List (List Key)} {xs : List V} {ds : List D} : H a = some (.dT (ks.zip xs)) → a ∉ μ.lv → ks.length = xs.length → RpA xs ds → Rp (.ref a) (.dt ks ds)
  | ins {a c dx : Addr} {ks : List Str} {xs : List V} {ds : List D} : H a = some (.ins c dx (ks.zip xs)) → a ∉ μ.lv → ks.length = xs.length → RpA xs ds → Rp (.ref a) (.ins c ks ds)
  | fn {a : Addr} : Rp (.ref a) (.fn a)
inductive RpA : List V → List D → Prop
  | nil : RpA [] []
  | cons {v : V} {vs : List V} {d : D} {ds : List D} : Rp v d → RpA vs ds → RpA (v :: vs) (d :: ds)
end
theorem sq {a : Addr} {xs : List V} (h : OwnT K H a xs) : SqT K H a xs := h.elim (fun h => .inl (.inl h)) fun h => .inr h.2
structure Grow (H H' : Hp) (μ μ' : Mu) : Prop where
  tups : ∀ a xs, H a = some (.tup xs) → H' a = some (.tup xs)
  frzs : ∀ a o u, H a = some (.frz o u) → H' a = some (.frz o u)
  exts : ∀ a φ, H a = some (.ext φ) → H' a = some (.ext φ)
  pre : μ.h <+: μ'.h
  muts : ∀ a o, Mt o → a ∉ μ.lv → H a = some o → H' a = some o
  fresh : ∀ a ∈ μ'.lv, a ∈ μ.lv ∨ H a = none
  alive : ∀ a, H' a = none → H a = none
def RpK {κ : Type} (kws : List (κ × V)) (kvs : List (κ × D)) : Prop := kws.map (·.1) = kvs.map (·.1) ∧ RpA K H μ (kws.map (·.2)) (kvs.map (·.2))
def MoR : MO → Addr → Prop
  | .lst ds, a => ∃ vs, H a = some (.lst vs) ∧ RpA K H μ vs ds
  | .dk kvs, a => ∃ kws, H a = some (.dK kws) ∧ RpK K H μ kws kvs
  | .dt kvs, a => ∃ kws, H a = some (.dT kws) ∧ RpK K H μ kws kvs
  | .ins c kvs, a => ∃ dx kws, H a = some (.ins c dx kws) ∧ RpK K H μ kws kvs
  | .gone, _ => True
structure StR (S : Store) : Prop where
  len : μ.h.length = S.length
  nd : ∀ (n m : Nat) (a : Addr) (x y : MO), S[n]? = some x → S[m]? = some y → x.mut = true → y.mut = true → μ.h[n]? = some a → μ.h[m]? = some a → n = m
  at_ : ∀ (n : Nat) (mo : MO) (a : Addr), S[n]? = some mo → μ.h[n]? = some a → MoR K H μ mo a
  liv : ∀ a ∈ μ.lv, H a ≠ none
  own : ∀ (n : Nat) (mo : MO) (a : Addr), S[n]? = some mo → mo.mut = true → μ.h[n]? = some a → a ∈ μ.lv
structure Sim (σ : L2.St) (ρ : Ev) (S : Store) : Prop where
  st : StR K H μ S
  len : ρ.length = σ.length
  sl : ∀ (i : Nat) (d : D), ρ[i]? = some (some d) → ∃ v, σ[i]? = some (some v) ∧ Rp K H μ v d
end rep
section
variable {K : PySem.W.Frag} {H H' H'' : Hp} {μ μ' μ'' : Mu}
theorem Grow.refl : Grow H H μ μ := ⟨fun _ _ h => h, fun _ _ _ h => h, fun _ _ h => h, List.prefix_refl _, fun _ _ _ _ h => h, fun _ h => .inl h, fun _ h => h⟩
theorem Grow.out (g : Grow H H' μ μ') {a : Addr} {o : HO} (h : a ∉ μ.lv) (e : H a = some o) : a ∉ μ'.lv := fun z => by
  rcases g.fresh a z with z | z
  · exact h z
  · rw [e] at z; cases z
theorem Grow.trans (a : Grow H H' μ μ') (b : Grow H' H'' μ' μ'') : Grow H H'' μ μ'' :=
  ⟨fun _ _ h => b.tups _ _ (a.tups _ _ h), fun _ _ _ h => b.frzs _ _ _ (a.frzs _ _ _ h), fun _ _ h => b.exts _ _ (a.exts _ _ h), a.pre.trans b.pre,
    fun c o m n e => b.muts c o m (a.out n e) (a.muts c o m n e), fun c h => (b.fresh c h).elim (a.fresh c) fun z => .inr (a.alive c z), fun c h => a.alive c (b.alive c h)⟩
theorem FzL.grow {a : Addr} {xs : List V} (g : Grow H H' μ μ') (h : FzL K H a xs) : FzL K H' a xs := by
  rcases h with ⟨o, h⟩ | h
  · exact .inl ⟨o, g.frzs _ _ _ h⟩
  · exact .inr h
theorem LsV.grow {a : Addr} {xs : List V} (g : Grow H H' μ μ') (h : LsV H μ a xs) : LsV H' μ' a xs := ⟨g.muts _ _ (.lst _) h.2 h.1, g.out h.2 h.1⟩
theorem Grow.sqT (g : Grow H H' μ μ') {a : Addr} {xs : List V} (h : SqT K H a xs) : SqT K H' a xs := by
  rcases h with (h | ⟨o, h⟩) | h
  · exact .inl (.inl (g.tups _ _ h))
  · exact .inl (.inr ⟨o, g.frzs _ _ _ h⟩)
  · exact .inr h
mutual
theorem Rp.grow (g : Grow H H' μ μ') : ∀ {d : D} {v : V}, Rp K H μ v d → Rp K H' μ' v d
  | .non, _, h => by cases h; exact .non
  | .bl _, _, h => by cases h; exact .bl _
  | .int _, _, h => by cases h; exact .int _
  | .str _, _, h => by cases h; exact .str _
  | .tup _, _, h => by
    cases h with
    | tup h1 h2 => exact .tup (h1.imp (g.tups _ _) id) (RpA.grow g h2)
  | .lr _, _, h => by
    cases h with
    | lr h1 =>
      obtain ⟨t, e⟩ := g.pre
      exact .lr (by rw [← e, List.getElem?_append_left (List.getElem?_eq_some_iff.mp h1).1]; exact h1)
  | .lst _, _, h => by
    cases h with
    | lst h1 h2 => exact .lst (h1.grow g) (RpA.grow g h2)
  | .fl _, _, h => by
    cases h with
    | fl h1 h2 => exact .fl (h1.grow g) (RpA.grow g h2)
  | .dk _ _, _, h => by
    cases h with
    | dk h1 h2 h3 h4 => exact .dk (g.muts _ _ (.dk _) h2 h1) (g.out h2 h1) h3 (RpA.grow g h4)
  | .dt _ _, _, h => by
    cases h with
    | dt h1 h2 h3 h4 => exact .dt (g.muts _ _ (.dt _) h2 h1) (g.out h2 h1) h3 (RpA.grow g h4)
  | .ins _ _ _, _, h => by
    cases h with
    | ins h1 h2 h3 h4 => exact .ins (g.muts _ _ (.ins _ _ _) h2 h1) (g.out h2 h1) h3 (RpA.grow g h4)
  | .fn _, _, h => by cases h; exact .fn
theorem RpA.grow (g : Grow H H' μ μ') : ∀ {ds : List D} {vs : List V}, RpA K H μ vs ds → RpA K H' μ' vs ds
  | [], _, h => by cases h; exact .nil
  | _ :: _, _, h => by
    cases h with
    | cons h1 h2 => exact .cons (Rp.grow g h1) (RpA.grow g h2)
end
theorem RpA.length : ∀ {vs : List V} {ds : List D}, RpA K H μ vs ds → vs.length = ds.length
  | _, [], h => by cases h; rfl
  | _, _ :: _, h => by
    cases h with
    | cons _ h2 => rw [List.length_cons, List.length_cons, RpA.length h2]
theorem RpA.get : ∀ {vs : List V} {ds : List D} {i : Nat} {d : D}, RpA K H μ vs ds → ds[i]? = some d → ∃ v, vs[i]? = some v ∧ Rp K H μ v d
  | _, [], i, d, h, e => by simp at e
  | _, _ :: _, 0, d, h, e => by
    cases h with
    | cons h1 _ => simp at e; subst e; exact ⟨_, rfl, h1⟩
  | _, _ :: _, i + 1, d, h, e => by
    cases h with
    | cons _ h2 =>
      obtain ⟨v, h3, h4⟩ := RpA.get (i := i) h2 (by simpa using e)
      exact ⟨v, by simpa using h3, h4⟩
theorem RpA.append : ∀ {xs ys : List V} {ds es : List D}, RpA K H μ xs ds → RpA K H μ ys es → RpA K H μ (xs ++ ys) (ds ++ es)
  | _, _, [], _, h, h' => by cases h; exact h'
  | _, _, _ :: _, _, h, h' => by
    cases h with
    | cons h1 h2 => exact .cons h1 (RpA.append h2 h')
theorem RpA.take : ∀ {xs : List V} {ds : List D} (n : Nat), RpA K H μ xs ds → RpA K H μ (xs.take n) (ds.take n)
  | _, _, 0, _ => .nil
  | _, [], _ + 1, h => by cases h; exact .nil
  | _, _ :: _, n + 1, h => by
    cases h with
    | cons h1 h2 => exact .cons h1 (RpA.take n h2)
theorem RpA.drop : ∀ {xs : List V} {ds : List D} (n : Nat), RpA K H μ xs ds → RpA K H μ (xs.drop n) (ds.drop n)
  | _, _, 0, h => h
  | _, [], _ + 1, h => by cases h; exact .nil
  | _, _ :: _, n + 1, h => by
    cases h with
    | cons _ h2 => exact RpA.drop n h2
theorem RpA.set {v : V} {d : D} (r : Rp K H μ v d) : ∀ {xs : List V} {ds : List D} (n : Nat), RpA K H μ xs ds → RpA K H μ (xs.set n v) (ds.set n d)
  | _, [], _, h => by cases h; exact .nil
  | _, _ :: _, 0, h => by
    cases h with
    | cons _ h2 => exact .cons r h2
  | _, _ :: _, n + 1, h => by
    cases h with
    | cons h1 h2 => exact .cons h1 (RpA.set r n h2)
theorem RpA.reverse : ∀ {xs : List V} {ds : List D}, RpA K H μ xs ds → RpA K H μ xs.reverse ds.reverse
  | _, [], h => by cases h; exact .nil
  | _, _ :: _, h => by
    cases h with
    | cons h1 h2 => rw [List.reverse_cons, List.reverse_cons]; exact (RpA.reverse h2).append (.cons h1 .nil)
theorem RpA.ints : ∀ {ns : List Int}, RpA K H μ (ns.map V.int) (ns.map D.int)
  | [] => .nil
  | _ :: _ => .cons (.int _) RpA.ints
theorem upd_alive {a p : Addr} {o : HO} (h : upd H p o a = none) : H a = none := by
  by_cases e : a = p
  · subst e; rw [upd_same] at h; cases h
  · rwa [upd_ne e] at h
theorem Grow.new {p : Addr} {o : HO} (h : H p = none) : Grow H (upd H p o) μ μ :=
  ⟨fun a xs e => by rw [upd_ne (ne_of_none e h)]; exact e, fun a ob u e => by rw [upd_ne (ne_of_none e h)]; exact e, fun a φ e => by rw [upd_ne (ne_of_none e h)]; exact e, List.prefix_refl _,
    fun a u _ _ e => by rw [upd_ne (ne_of_none e h)]; exact e, fun _ z => .inl z, fun a e => upd_alive e⟩
theorem Grow.newL {p : Addr} {o : HO} (h : H p = none) : Grow H (upd H p o) μ (μ.add p) :=
  ⟨(Grow.new (μ := μ) h).tups, (Grow.new (μ := μ) h).frzs, (Grow.new (μ := μ) h).exts, List.prefix_append _ _, (Grow.new (μ := μ) h).muts,
    fun a z => (List.mem_append.mp z).elim .inl fun z => .inr (by rw [List.mem_singleton.mp z]; exact h), (Grow.new (μ := μ) h).alive⟩
theorem Grow.wrM {a : Addr} {o u : HO} (m : Mt o) (h : H a = some o) (hn : a ∈ μ.lv) : Grow H (upd H a u) μ μ :=
  ⟨fun b ys e => by rw [upd_ne (ne_of e h (by intro z; subst z; cases m))]; exact e, fun b ob v e => by rw [upd_ne (ne_of e h (by intro z; subst z; cases m))]; exact e, fun b φ e => by rw [upd_ne (ne_of e h (by intro z; subst z; cases m))]; exact e,
    List.prefix_refl _, fun b v _ z e => by rw [upd_ne fun q => z (by rw [q]; exact hn)]; exact e, fun _ z => .inl z, fun _ e => upd_alive e⟩
theorem FzL.sqL {a : Addr} {xs : List V} (h : FzL K H a xs) : SqL K H a xs := by
  rcases h with ⟨o, h⟩ | h
  · exact .inl (.inr ⟨o, h⟩)
  · exact .inr h
theorem LsV.sqL {a : Addr} {xs : List V} (h : LsV H μ a xs) : SqL K H a xs := .inl (.inl h.1)
theorem RpK.grow {κ : Type} {kws : List (κ × V)} {kvs : List (κ × D)} (g : Grow H H' μ μ') (h : RpK K H μ kws kvs) : RpK K H' μ' kws kvs := ⟨h.1, h.2.grow g⟩
theorem MoR.grow {mo : MO} {a : Addr} (g : Grow H H' μ μ') (h : MoR K H μ mo a) (k : ∀ o, Mt o → H a = some o → H' a = some o) : MoR K H' μ' mo a := by
  cases mo with
  | lst ds => obtain ⟨vs, h1, h2⟩ := h; exact ⟨vs, k _ (.lst _) h1, h2.grow g⟩
  | dk kvs => obtain ⟨kws, h1, h2⟩ := h; exact ⟨kws, k _ (.dk _) h1, h2.grow g⟩
  | dt kvs => obtain ⟨kws, h1, h2⟩ := h; exact ⟨kws, k _ (.dt _) h1, h2.grow g⟩
  | ins c kvs => obtain ⟨dx, kws, h1, h2⟩ := h; exact ⟨dx, kws, k _ (.ins _ _ _) h1, h2.grow g⟩
  | gone => exact trivial
theorem MoR.mt {mo : MO} {a : Addr} (h : MoR K H μ mo a) (m : mo.mut = true) : ∃ o, Mt o ∧ H a = some o := by
  cases mo with
  | lst ds => obtain ⟨vs, h1, _⟩ := h; exact ⟨_, .lst _, h1⟩
  | dk kvs => obtain ⟨kws, h1, _⟩ := h; exact ⟨_, .dk _, h1⟩
  | dt kvs => obtain ⟨kws, h1, _⟩ := h; exact ⟨_, .dt _, h1⟩
  | ins c kvs => obtain ⟨dx, kws, h1, _⟩ := h; exact ⟨_, .ins _ _ _, h1⟩
  | gone => cases m
theorem StR.grow {S : Store} (s : StR K H μ S) (g : Grow H H' μ μ) (k : ∀ a o, Mt o → H a = some o → H' a = some o) : StR K H' μ S :=
  ⟨s.len, s.nd, fun n mo a e1 e2 => (s.at_ n mo a e1 e2).grow g fun o => k a o, fun a h z => s.liv a h (g.alive a z), s.own⟩
theorem StR.new {S : Store} {p : Addr} {o : HO} (s : StR K H μ S) (h : H p = none) : StR K (upd H p o) μ S :=
  s.grow (.new h) fun a u _ e => by rw [upd_ne (ne_of_none e h)]; exact e
theorem StR.newM {S : Store} {p : Addr} {o : HO} {y : MO} (s : StR K H μ S) (h : H p = none) (r : MoR K (upd H p o) (μ.add p) y p) : StR K (upd H p o) (μ.add p) (S ++ [y]) := by
  have g : Grow H (upd H p o) μ (μ.add p) := .newL h
  have old : ∀ {n : Nat} {mo : MO} {a : Addr}, (S ++ [y])[n]? = some mo → (μ.add p).h[n]? = some a → (n < S.length ∧ S[n]? = some mo ∧ μ.h[n]? = some a) ∨ (n = S.length ∧ mo = y ∧ a = p) := fun {n mo a} e1 e2 => by
    by_cases hn : n < S.length
    · rw [List.getElem?_append_left hn] at e1
      have e2 : (μ.h ++ [p])[n]? = some a := e2
      rw [List.getElem?_append_left (by rw [s.len]; exact hn)] at e2
      exact .inl ⟨hn, e1, e2⟩
    · have hl := (List.getElem?_eq_some_iff.mp e1).1
      rw [List.length_append, List.length_singleton] at hl
      have hn' : n = S.length := by omega
      subst hn'
      rw [List.getElem?_concat_length] at e1
      have e2 : (μ.h ++ [p])[S.length]? = some a := e2
      rw [← s.len, List.getElem?_concat_length] at e2
      cases e1; cases e2
      exact .inr ⟨rfl, rfl, rfl⟩
  have notp : ∀ {n : Nat} {x : MO}, S[n]? = some x → x.mut = true → μ.h[n]? = some p → False := fun {n x} e1 m e2 => by
    obtain ⟨u, _, q⟩ := (s.at_ n _ p e1 e2).mt m
    rw [h] at q; cases q
  refine ⟨by show (μ.h ++ [p]).length = _; rw [List.length_append, List.length_append, s.len]; rfl, fun n m a x z e1 e2 m1 m2 e3 e4 => ?_, fun n mo a e1 e2 => ?_, fun a z q => (List.mem_append.mp z).elim (fun z => s.liv a z (g.alive a q)) (fun z => by rw [List.mem_singleton.mp z, upd_same] at q; exact nomatch q),
    fun n mo a e1 m1 e2 => ?_⟩
  · rcases old e1 e3 with ⟨h1, h2, h3⟩ | ⟨h1, h2, h3⟩
    · rcases old e2 e4 with ⟨h4, h5, h6⟩ | ⟨h4, h5, h6⟩
      · exact s.nd n m a _ _ h2 h5 m1 m2 h3 h6
      · subst h6; exact (notp h2 m1 h3).elim
    · rcases old e2 e4 with ⟨h4, h5, h6⟩ | ⟨h4, h5, h6⟩
      · subst h3; exact (notp h5 m2 h6).elim
      · rw [h1, h4]
  · rcases old e1 e2 with ⟨h1, h2, h3⟩ | ⟨h1, h2, h3⟩
    · exact (s.at_ n mo a h2 h3).grow g fun u _ e => by rw [upd_ne (ne_of_none e h)]; exact e
    · subst h2; subst h3
      exact r
  · rcases old e1 e2 with ⟨h1, h2, h3⟩ | ⟨h1, h2, h3⟩
    · exact List.mem_append_left _ (s.own n mo a h2 m1 h3)
    · rw [h3]; exact List.mem_append_right _ (List.mem_singleton.mpr rfl)
theorem StR.newL {S : Store} {p : Addr} {vs : List V} {ds : List D} (s : StR K H μ S) (h : H p = none) (r : RpA K H μ vs ds) : StR K (upd H p (.lst vs)) (μ.add p) (S ++ [.lst ds]) :=
  s.newM h ⟨vs, upd_same, r.grow (.newL h)⟩
theorem StR.wrM {S : Store} {n : Nat} {a : Addr} {x y : MO} {u : HO} (s : StR K H μ S) (e1 : S[n]? = some x) (mx : x.mut = true) (e2 : μ.h[n]? = some a) (r : MoR K (upd H a u) μ y a) : StR K (upd H a u) μ (S.set n y) := by
  obtain ⟨o, mo0, h0⟩ := (s.at_ n _ a e1 e2).mt mx
  have g : Grow H (upd H a u) μ μ := .wrM mo0 h0 (s.own n x a e1 mx e2)
  have hn : n < S.length := (List.getElem?_eq_some_iff.mp e1).1
  have low : ∀ {m : Nat} {z : MO}, (S.set n y)[m]? = some z → z.mut = true → ∃ z', S[m]? = some z' ∧ z'.mut = true := fun {m z} e mz => by
    by_cases hm : n = m
    · subst hm; exact ⟨x, e1, mx⟩
    · rw [List.getElem?_set_ne hm] at e; exact ⟨z, e, mz⟩
  refine ⟨by rw [List.length_set]; exact s.len, fun k m b z t q1 q2 m1 m2 q3 q4 => ?_, fun m mo b q1 q2 => ?_, fun b z q => s.liv b z (g.alive b q), fun m mo b q1 m1 q2 => let ⟨z', q3, m3⟩ := low q1 m1; s.own m z' b q3 m3 q2⟩
  · obtain ⟨z', q1, m1⟩ := low q1 m1
    obtain ⟨t', q2, m2⟩ := low q2 m2
    exact s.nd k m b _ _ q1 q2 m1 m2 q3 q4
  · by_cases hm : n = m
    · subst hm
      rw [List.getElem?_set_self hn] at q1
      rw [e2] at q2
      cases q1; cases q2
      exact r
    · rw [List.getElem?_set_ne hm] at q1
      have q := s.at_ m mo b q1 q2
      by_cases mm : mo.mut = true
      · have hb : b ≠ a := fun z => by subst z; exact hm (s.nd n m b _ _ e1 q1 mx mm e2 q2)
        exact q.grow g fun o' _ e => by rw [upd_ne hb]; exact e
      · cases mo with
        | gone => exact trivial
        | _ => exact absurd rfl mm
theorem StR.wr {S : Store} {n : Nat} {a : Addr} {ds es : List D} {vs : List V} (s : StR K H μ S) (e1 : S[n]? = some (.lst ds)) (e2 : μ.h[n]? = some a) (r : RpA K H μ vs es) : StR K (upd H a (.lst vs)) μ (S.set n (.lst es)) := by
  obtain ⟨vs0, h0, _⟩ := s.at_ n _ a e1 e2
  exact s.wrM e1 rfl e2 ⟨vs, upd_same, r.grow (.wrM (.lst _) h0 (s.own n _ a e1 rfl e2))⟩
theorem Grow.wrS {S : Store} {n : Nat} {a : Addr} {x : MO} {u : HO} (s : StR K H μ S) (e : S[n]? = some x) (mx : x.mut = true) (hn : μ.h[n]? = some a) : Grow H (upd H a u) μ μ := by
  obtain ⟨o, m, h⟩ := (s.at_ n _ a e hn).mt mx
  exact .wrM m h (s.own n x a e mx hn)
theorem mem_drop {a b : Addr} : a ∈ (μ.drop b).lv ↔ a ∈ μ.lv ∧ a ≠ b := by
  unfold Mu.drop
  rw [List.mem_filter, decide_eq_true_eq]
theorem Grow.dropped {a : Addr} (g : Grow H H' μ μ') : Grow H H' μ (μ'.drop a) :=
  ⟨g.tups, g.frzs, g.exts, g.pre, g.muts, fun b z => g.fresh b (mem_drop.mp z).1, g.alive⟩
mutual
theorem Rp.dropped {a : Addr} : ∀ {d : D} {v : V}, Rp K H μ v d → Rp K H (μ.drop a) v d
  | .non, _, h => by cases h; exact .non
  | .bl _, _, h => by cases h; exact .bl _
  | .int _, _, h => by cases h; exact .int _
  | .str _, _, h => by cases h; exact .str _
  | .tup _, _, h => by
    cases h with
    | tup h1 h2 => exact .tup h1 (RpA.dropped h2)
  | .lr _, _, h => by
    cases h with
    | lr h1 => exact .lr h1
  | .lst _, _, h => by
    cases h with
    | lst h1 h2 => exact .lst ⟨h1.1, fun z => h1.2 (mem_drop.mp z).1⟩ (RpA.dropped h2)
  | .fl _, _, h => by
    cases h with
    | fl h1 h2 => exact .fl h1 (RpA.dropped h2)
  | .dk _ _, _, h => by
    cases h with
    | dk h1 h2 h3 h4 => exact .dk h1 (fun z => h2 (mem_drop.mp z).1) h3 (RpA.dropped h4)
  | .dt _ _, _, h => by
    cases h with
    | dt h1 h2 h3 h4 => exact .dt h1 (fun z => h2 (mem_drop.mp z).1) h3 (RpA.dropped h4)
  | .ins _ _ _, _, h => by
    cases h with
    | ins h1 h2 h3 h4 => exact .ins h1 (fun z => h2 (mem_drop.mp z).1) h3 (RpA.dropped h4)
  | .fn _, _, h => by cases h; exact .fn
theorem RpA.dropped {a : Addr} : ∀ {ds : List D} {vs : List V}, RpA K H μ vs ds → RpA K H (μ.drop a) vs ds
  | [], _, h => by cases h; exact .nil
  | _ :: _, _, h => by
    cases h with
    | cons h1 h2 => exact .cons (Rp.dropped h1) (RpA.dropped h2)
end
theorem MoR.dropped {a b : Addr} {mo : MO} (h : MoR K H μ mo b) : MoR K H (μ.drop a) mo b := by
  cases mo with
  | lst ds => obtain ⟨vs, h1, h2⟩ := h; exact ⟨vs, h1, h2.dropped⟩
  | dk kvs => obtain ⟨kws, h1, h2⟩ := h; exact ⟨kws, h1, h2.1, h2.2.dropped⟩
  | dt kvs => obtain ⟨kws, h1, h2⟩ := h; exact ⟨kws, h1, h2.1, h2.2.dropped⟩
  | ins c kvs => obtain ⟨dx, kws, h1, h2⟩ := h; exact ⟨dx, kws, h1, h2.1, h2.2.dropped⟩
  | gone => exact trivial
theorem StR.dropped {S : Store} {n : Nat} {a : Addr} {x : MO} (s : StR K H μ S) (e : S[n]? = some x) (mx : x.mut = true) (hn : μ.h[n]? = some a) : StR K H (μ.drop a) (S.set n .gone) := by
  have hl : n < S.length := (List.getElem?_eq_some_iff.mp e).1
  have low : ∀ {m : Nat} {z : MO}, (S.set n .gone)[m]? = some z → z.mut = true → m ≠ n ∧ S[m]? = some z := fun {m z} q mz => by
    by_cases hm : n = m
    · subst hm
      rw [List.getElem?_set_self hl] at q
      cases q; cases mz
    · rw [List.getElem?_set_ne hm] at q
      exact ⟨fun z => hm z.symm, q⟩
  refine ⟨by rw [List.length_set]; exact s.len, fun k m b z t q1 q2 m1 m2 q3 q4 => ?_, fun m mo b q1 q2 => ?_, fun b z => s.liv b (mem_drop.mp z).1, fun m mo b q1 m1 q2 => ?_⟩
  · exact s.nd k m b _ _ (low q1 m1).2 (low q2 m2).2 m1 m2 q3 q4
  · by_cases hm : n = m
    · subst hm
      rw [List.getElem?_set_self hl] at q1
      cases q1
      exact trivial
    · rw [List.getElem?_set_ne hm] at q1
      exact (s.at_ m mo b q1 q2).dropped
  · obtain ⟨h1, h2⟩ := low q1 m1
    exact mem_drop.mpr ⟨s.own m mo b h2 m1 q2, fun z => h1 (s.nd m n b _ _ h2 e m1 mx q2 (by rw [z]; exact hn))⟩
theorem StR.get {S : Store} {n : Nat} {mo : MO} (s : StR K H μ S) (e : S[n]? = some mo) : ∃ a, μ.h[n]? = some a ∧ MoR K H μ mo a := by
  have hn : n < μ.h.length := by rw [s.len]; exact (List.getElem?_eq_some_iff.mp e).1
  exact ⟨μ.h[n], List.getElem?_eq_getElem hn, s.at_ n mo _ e (List.getElem?_eq_getElem hn)⟩
theorem Sim.grow {σ : L2.St} {ρ : Ev} {S S' : Store} (s : Sim K H μ σ ρ S) (g : Grow H H' μ μ') (t : StR K H' μ' S') : Sim K H' μ' σ ρ S' :=
  ⟨t, s.len, fun i d e => let ⟨v, h1, h2⟩ := s.sl i d e; ⟨v, h1, h2.grow g⟩⟩
theorem Sim.set {σ : L2.St} {ρ : Ev} {S : Store} {v : V} {d : D} (s : Sim K H μ σ ρ S) (i : Nat) (r : Rp K H μ v d) : Sim K H μ (σ.set i (some v)) (ρ.set i (some d)) S :=
  ⟨s.st, by rw [List.length_set, List.length_set]; exact s.len, fun j e q => by
    by_cases h : i = j
    · subst h
      have hl : i < ρ.length := by
        have := (List.getElem?_eq_some_iff.mp q).1
        rwa [List.length_set] at this
      rw [List.getElem?_set_self hl] at q
      cases q
      exact ⟨v, List.getElem?_set_self (by rw [← s.len]; exact hl), r⟩
    · rw [List.getElem?_set_ne h] at q ⊢
      exact s.sl j e q⟩
end
abbrev MExp := Ev → Store → Option (D × Store)
abbrev MTst := Ev → Store → Option (Bool × Store)
abbrev MArg := Ev → Store → Option (List D × Store)
inductive Fl where
  | nx | bk | ct | rt (d : D)
abbrev MStm := Ev → Store → Option (Fl × Ev × Store)
abbrev MTg := D → Ev → Store → Option (Ev × Store)
section
variable (K : PySem.W.Frag)
def Aft (H : Hp) (μ : Mu) (d : D) (S : Store) (Q : VK) : Prop := ∀ v H' μ', Grow H H' μ μ' → StR K H' μ' S → Rp K H' μ' v d → Q v H'
def tE (m : MExp) : TE := fun σ H Q => ∃ ρ S μ d S', Sim K H μ σ ρ S ∧ m ρ S = some (d, S') ∧ Aft K H μ d S' Q
def tT (m : MTst) : TT := fun σ H Q => ∃ ρ S μ b S', Sim K H μ σ ρ S ∧ m ρ S = some (b, S') ∧ ∀ H' μ', Grow H H' μ μ' → StR K H' μ' S' → Q b H'
def tA (m : MArg) : TA := fun σ H Q => ∃ ρ S μ ds S', Sim K H μ σ ρ S ∧ m ρ S = some (ds, S') ∧ ∀ vs H' μ', Grow H H' μ μ' → StR K H' μ' S' → RpA K H' μ' vs ds → Q vs H'
def EndOf (D_ : Ends) : Fl → L2.St → Hp → Mu → Prop
  | .nx, σ, H, _ => D_.nx σ H
  | .bk, σ, H, _ => D_.bk σ H
  | .ct, σ, H, _ => D_.ct σ H
  | .rt d, _, H, μ => ∀ v, Rp K H μ v d → D_.rt v H
def tS (m : MStm) : TS := fun D_ σ H => ∃ ρ S μ f ρ' S', Sim K H μ σ ρ S ∧ m ρ S = some (f, ρ', S') ∧ ∀ σ' H' μ', Grow H H' μ μ' → Sim K H' μ' σ' ρ' S' → EndOf K D_ f σ' H' μ'
def tG (m : MTg) : TG := fun v σ H Q => ∃ d ρ S μ ρ' S', Sim K H μ σ ρ S ∧ Rp K H μ v d ∧ m d ρ S = some (ρ', S') ∧ ∀ σ' H' μ', Grow H H' μ μ' → Sim K H' μ' σ' ρ' S' → Q σ' H'
end
structure ME (X : Cx) (e : Expr) (m : MExp) : Prop where
  pe : PE X e (tE X.K m)
structure MT (X : Cx) (e : Expr) (m : MTst) : Prop where
  pt : PT X e (tT X.K m)
structure MW (X : Cx) (e : Expr) (m : MTst) : Prop where
  pw : PW X e (tT X.K m)
structure MA (X : Cx) (es : List Expr) (m : MArg) : Prop where
  pa : PA X es (tA X.K m)
structure MS_ (X : Cx) (st : Stmt) (m : MStm) : Prop where
  ps : PS X st (tS X.K m)
structure MSs (X : Cx) (st : List Stmt) (m : MStm) : Prop where
  pss : PSs X st (tS X.K m)
structure MG (X : Cx) (tg : Expr) (m : MTg) : Prop where
  pg : PG X tg (tG X.K m)
theorem PE.imp {X : Cx} {e : Expr} {t t' : TE} (h : PE X e t) (i : ∀ σ H Q, t' σ H Q → t σ H Q) : PE X e t' := ⟨fun pins s σ H Q I q => h.run pins s σ H Q I (i _ _ _ q)⟩
theorem PT.imp {X : Cx} {e : Expr} {t t' : TT} (h : PT X e t) (i : ∀ σ H Q, t' σ H Q → t σ H Q) : PT X e t' := ⟨fun pins s σ H Q I q => h.run pins s σ H Q I (i _ _ _ q)⟩
theorem PW.imp {X : Cx} {e : Expr} {t t' : TT} (h : PW X e t) (i : ∀ σ H Q, t' σ H Q → t σ H Q) : PW X e t' := ⟨fun w pins s σ H Q I q => h.run w pins s σ H Q I (i _ _ _ q)⟩
theorem PA.imp {X : Cx} {e : List Expr} {t t' : TA} (h : PA X e t) (i : ∀ σ H Q, t' σ H Q → t σ H Q) : PA X e t' := ⟨fun p pins s σ H Q I q => h.run p pins s σ H Q I (i _ _ _ q)⟩
theorem PS.imp {X : Cx} {e : Stmt} {t t' : TS} (h : PS X e t) (i : ∀ D σ H, t' D σ H → t D σ H) : PS X e t' := ⟨fun pins s σ H D I q => h.run pins s σ H D I (i _ _ _ q)⟩
theorem PSs.imp {X : Cx} {e : List Stmt} {t t' : TS} (h : PSs X e t) (i : ∀ D σ H, t' D σ H → t D σ H) : PSs X e t' := ⟨fun pins s σ H D I q => h.run pins s σ H D I (i _ _ _ q)⟩
theorem PG.imp {X : Cx} {e : Expr} {t t' : TG} (h : PG X e t) (i : ∀ v σ H Q, t' v σ H Q → t v σ H Q) : PG X e t' := ⟨fun pins s σ H v u Q I r q => h.run pins s σ H v u Q I r (i _ _ _ _ q)⟩
def mVar (i : Nat) : MExp := fun ρ S => match ρ[i]? with
  | some (some d) => some (d, S)
  | _ => none
def mC (d : D) : MExp := fun _ S => some (d, S)
def mNil : MArg := fun _ S => some ([], S)
def mCons (m : MExp) (r : MArg) : MArg := fun ρ S => (m ρ S).bind fun p => (r ρ p.2).bind fun q => some (p.1 :: q.1, q.2)
section
variable {X : Cx}
theorem me_var {i : Nat} {x : Str} {pos : Pos} (hN : X.N[i]? = some x) (hv : Vis X.env.scope x) (hd : (x == ("__debug__" : Str)) = false := by decide) (hcd : (x == ("__classdict__" : Str)) = false := by decide) : ME X (.Name x pos) (mVar i) :=
  ⟨PE.imp (pe_var hN hv hd hcd) fun σ H Q ⟨ρ, S, μ, d, S', s, e, q⟩ => by
    unfold mVar at e
    split at e
    · rename_i d' h
      cases e
      obtain ⟨v, h1, h2⟩ := s.sl i _ h
      exact ⟨v, h1, q v H μ .refl s.st h2⟩
    · cases e⟩
theorem mv (i : Nat) {x : Str} {pos : Pos} (hN : X.N[i]? = some x := by rfl) (hv : Vis X.env.scope x := by first | exact Or.inl rfl | exact Or.inr (Or.inl rfl) | exact Or.inr (Or.inr rfl)) (hd : (x == ("__debug__" : Str)) = false := by decide)
    (hcd : (x == ("__classdict__" : Str)) = false := by decide) : ME X (.Name x pos) (mVar i) := me_var hN hv hd hcd
theorem me_c {e : Expr} {v : V} {d : D} (h : PE X e (tC v)) (r : ∀ K H μ, Rp K H μ v d) : ME X e (mC d) :=
  ⟨PE.imp h fun σ H Q ⟨ρ, S, μ, d', S', s, e, q⟩ => by cases e; exact q v H μ .refl s.st (r _ _ _)⟩
theorem me_int {i j pos} : ME X (.Constant (.int i) j pos) (mC (.int i)) := me_c pe_int fun _ _ _ => .int _
theorem me_bl {b j pos} : ME X (.Constant (.bool b) j pos) (mC (.bl b)) := me_c pe_bl fun _ _ _ => .bl _
theorem me_non {j pos} : ME X (.Constant .none j pos) (mC .non) := me_c pe_non fun _ _ _ => .non
theorem me_str {x j pos} : ME X (.Constant (.str x) j pos) (mC (.str x)) := me_c pe_str fun _ _ _ => .str _
theorem ma_nil : MA X [] mNil := ⟨PA.imp pa_nil fun σ H Q ⟨ρ, S, μ, d, S', s, e, q⟩ => by cases e; exact q [] H μ .refl s.st .nil⟩
theorem ma_cons {e : Expr} {es : List Expr} {m : MExp} {r : MArg} (h : ME X e m) (hr : MA X es r) (hs : starEach (e :: es) X.env = (false, eval e X.env) :: starEach es X.env := by rfl) : MA X (e :: es) (mCons m r) :=
  ⟨PA.imp (pa_cons h.pe hr.pa hs) fun σ H Q ⟨ρ, S, μ, ds, S', s, e, q⟩ => by
    unfold mCons at e
    obtain ⟨⟨d, S1⟩, e1, e⟩ := Option.bind_eq_some_iff.mp e
    obtain ⟨⟨ds', S2⟩, e2, e⟩ := Option.bind_eq_some_iff.mp e
    cases e
    refine ⟨ρ, S, μ, d, S1, s, e1, fun v H1 μ1 g1 s1 r1 => ?_⟩
    refine ⟨ρ, S1, μ1, ds', _, s.grow g1 s1, e2, fun vs H2 μ2 g2 s2 r2 => ?_⟩
    exact q (v :: vs) H2 μ2 (g1.trans g2) s2 (.cons (r1.grow g2) r2)⟩
end
end MS
set_option Elab.async false
set_option linter.all false
set_option maxRecDepth 100000
set_option maxHeartbeats 4000000
namespace MS
open PySem PySem.Spec PyProof.Rows L2
abbrev DOp2 := D → D → Store → Option (D × Store)
abbrev DCall := List D → Store → Option (D × Store)
def rM (K : PySem.W.Frag) (f : DOp2) : R2 := fun x y H Q => ∃ S μ dx dy d S', StR K H μ S ∧ Rp K H μ x dx ∧ Rp K H μ y dy ∧ f dx dy S = some (d, S') ∧ Aft K H μ d S' Q
def rCM (K : PySem.W.Frag) (f : DCall) : List V → Hp → VK → Prop := fun vs H Q => ∃ S μ ds d S', StR K H μ S ∧ RpA K H μ vs ds ∧ f ds S = some (d, S') ∧ Aft K H μ d S' Q
def mBin (f : DOp2) (ma mb : MExp) : MExp := fun ρ S => (ma ρ S).bind fun p => (mb ρ p.2).bind fun q => f p.1 q.1 q.2
def mCall (f : DCall) (m : MArg) : MExp := fun ρ S => (m ρ S).bind fun p => f p.1 p.2
theorem tE_bin {K : PySem.W.Frag} {f : DOp2} {ma mb : MExp} {σ : L2.St} {H : Hp} {Q : VK} (h : tE K (mBin f ma mb) σ H Q) : tOp (rM K f) (tE K ma) (tE K mb) σ H Q := by
  obtain ⟨ρ, S, μ, d, S', s, e, q⟩ := h
  unfold mBin at e
  obtain ⟨⟨d1, S1⟩, e1, e⟩ := Option.bind_eq_some_iff.mp e
  obtain ⟨⟨d2, S2⟩, e2, e⟩ := Option.bind_eq_some_iff.mp e
  refine ⟨ρ, S, μ, d1, S1, s, e1, fun v H1 μ1 g1 s1 r1 => ?_⟩
  refine ⟨ρ, S1, μ1, d2, S2, s.grow g1 s1, e2, fun u H2 μ2 g2 s2 r2 => ?_⟩
  exact ⟨S2, μ2, d1, d2, d, S', s2, r1.grow g2, r2, e, fun v H' μ' g3 => q v H' μ' ((g1.trans g2).trans g3)⟩
theorem tE_call {K : PySem.W.Frag} {f : DCall} {m : MArg} {σ : L2.St} {H : Hp} {Q : VK} (h : tE K (mCall f m) σ H Q) : tA K m σ H fun vs H1 => rCM K f vs H1 Q := by
  obtain ⟨ρ, S, μ, d, S', s, e, q⟩ := h
  unfold mCall at e
  obtain ⟨⟨ds, S1⟩, e1, e⟩ := Option.bind_eq_some_iff.mp e
  exact ⟨ρ, S, μ, ds, S1, s, e1, fun vs H1 μ1 g1 s1 r1 => ⟨S1, μ1, ds, d, S', s1, r1, e, fun v H' μ' g3 => q v H' μ' (g1.trans g3)⟩⟩
section
variable {X : Cx} {a b : Expr} {ma mb : MExp} {f : DOp2} {pos : Pos}
theorem me_op {op : Operator} (ho : OpR X (binaryOp op) (rM X.K f)) (ha : ME X a ma) (hb : ME X b mb) : ME X (.BinOp a op b pos) (mBin f ma mb) :=
  ⟨PE.imp (pe_op ho ha.pe hb.pe) fun _ _ _ h => tE_bin h⟩
theorem me_cmp {op : CmpOp} (ho : OpR X (compareOp op) (rM X.K f)) (ha : ME X a ma) (hb : ME X b mb) (hm : behindInMarks op b = false) : ME X (.Compare a [op] [b] pos) (mBin f ma mb) :=
  ⟨PE.imp (pe_cmpR ho ha.pe hb.pe hm) fun _ _ _ h => tE_bin h⟩
end
theorem OpR.imp {X : Cx} {f : Value → Value → Sem Value} {r r' : R2} (h : OpR X f r) (i : ∀ x y H Q, r' x y H Q → r x y H Q) : OpR X f r' := fun pins s σ H x y v u Q I rx ry q => h pins s σ H x y v u Q I rx ry (i _ _ _ _ q)
theorem CallR.imp {X : Cx} {f : Value} {r r' : List V → Hp → VK → Prop} (h : CallR X f r) (i : ∀ x H Q, r' x H Q → r x H Q) : CallR X f r' := fun pins s σ H xs us Q I rx q => h pins s σ H xs us Q I rx (i _ _ _ q)
section
variable {K : PySem.W.Frag} {H : Hp} {μ : Mu} {S : Store} {Q : VK}
theorem Aft.id {v : V} {d : D} (q : Aft K H μ d S Q) (s : StR K H μ S) (r : Rp K H μ v d) : Q v H := q v H μ .refl s r
theorem Aft.tup {p : Addr} {vs : List V} {ds : List D} (q : Aft K H μ (.tup ds) S Q) (s : StR K H μ S) (r : RpA K H μ vs ds) (hp : H p = none) : Q (.ref p) (upd H p (.tup vs)) :=
  q (.ref p) _ μ (.new hp) (s.new hp) (.tup (.inl upd_same) (r.grow (.new hp)))
theorem Aft.lst {p : Addr} {vs : List V} {ds : List D} (q : Aft K H μ (.lr S.length) (S ++ [.lst ds]) Q) (s : StR K H μ S) (r : RpA K H μ vs ds) (hp : H p = none) : Q (.ref p) (upd H p (.lst vs)) :=
  q (.ref p) _ (μ.add p) (.newL hp) (s.newL hp r) (.lr (by rw [← s.len]; exact Mu.new))
end
section
variable {K : PySem.W.Frag} {H : Hp} {μ : Mu} {S : Store} {Q : VK}
theorem Aft.lstV {p : Addr} {vs : List V} {ds : List D} (q : Aft K H μ (.lst ds) S Q) (s : StR K H μ S) (r : RpA K H μ vs ds) (hp : H p = none) : Q (.ref p) (upd H p (.lst vs)) :=
  q (.ref p) _ μ (.new hp) (s.new hp) (.lst ⟨upd_same, fun z => s.liv p z hp⟩ (r.grow (.new hp)))
end
def lat (S : Store) (n : Nat) : Option (List D) := match S[n]? with
  | some (.lst ds) => some ds
  | _ => none
theorem StR.lat {K : PySem.W.Frag} {H : Hp} {μ : Mu} {S : Store} {n : Nat} {ds : List D} {v : V} (s : StR K H μ S) (e : lat S n = some ds) (r : Rp K H μ v (.lr n)) : ∃ a vs, v = .ref a ∧ SqL K H a vs ∧ RpA K H μ vs ds := by
  cases r with
  | lr h1 =>
    unfold MS.lat at e
    split at e
    · rename_i es h2
      cases e
      obtain ⟨a, q1, q2⟩ := s.get h2
      rw [h1] at q1; cases q1
      obtain ⟨vs, h3, h4⟩ := q2
      exact ⟨_, vs, rfl, .inl (.inl h3), h4⟩
    · cases e
theorem StR.lst {K : PySem.W.Frag} {H : Hp} {μ : Mu} {S : Store} {n : Nat} {ds : List D} {v : V} (s : StR K H μ S) (e : S[n]? = some (.lst ds)) (r : Rp K H μ v (.lr n)) : ∃ a vs, v = .ref a ∧ μ.h[n]? = some a ∧ H a = some (.lst vs) ∧ RpA K H μ vs ds := by
  cases r with
  | lr h1 =>
    obtain ⟨a, q1, q2⟩ := s.get e
    rw [h1] at q1; cases q1
    obtain ⟨vs, h3, h4⟩ := q2
    exact ⟨_, vs, rfl, h1, h3, h4⟩
def latD (S : Store) : D → Option (List D)
  | .lr n => lat S n
  | .lst ds => some ds
  | .fl ds => some ds
  | _ => none
theorem StR.latD {K : PySem.W.Frag} {H : Hp} {μ : Mu} {S : Store} {d : D} {ds : List D} {v : V} (s : StR K H μ S) (e : MS.latD S d = some ds) (r : Rp K H μ v d) : ∃ a vs, v = .ref a ∧ SqL K H a vs ∧ RpA K H μ vs ds := by
  cases d with
  | lr n => exact s.lat e r
  | lst es =>
    cases e
    cases r with
    | lst h1 h2 => exact ⟨_, _, rfl, h1.sqL, h2⟩
  | fl es =>
    cases e
    cases r with
    | fl h1 h2 => exact ⟨_, _, rfl, h1.sqL, h2⟩
  | _ => cases e
def mat (S : Store) (n : Nat) : Option (List D) := match S[n]? with
  | some (.lst ds) => some ds
  | _ => none
theorem mat_eq {S : Store} {n : Nat} {ds : List D} (h : mat S n = some ds) : S[n]? = some (.lst ds) := by
  unfold mat at h
  split at h
  · rename_i e; cases h; exact e
  · cases h
theorem StR.mat {K : PySem.W.Frag} {H : Hp} {μ : Mu} {S : Store} {n : Nat} {ds : List D} {v : V} (s : StR K H μ S) (e : mat S n = some ds) (r : Rp K H μ v (.lr n)) : ∃ a vs, v = .ref a ∧ μ.h[n]? = some a ∧ H a = some (.lst vs) ∧ RpA K H μ vs ds := s.lst (mat_eq e) r
def items (S : Store) : D → Option (List D)
  | .tup ds => some ds
  | .lr n => lat S n
  | .lst ds => some ds
  | .fl ds => some ds
  | _ => none
theorem StR.items {K : PySem.W.Frag} {H : Hp} {μ : Mu} {S : Store} {d : D} {ds : List D} {v : V} (s : StR K H μ S) (e : items S d = some ds) (r : Rp K H μ v d) : ∃ a vs, v = .ref a ∧ (SqL K H a vs ∨ SqT K H a vs) ∧ RpA K H μ vs ds := by
  cases d with
  | tup es =>
    cases e
    cases r with
    | tup h1 h2 => exact ⟨_, _, rfl, .inr (sq _ _ h1), h2⟩
  | lr n => obtain ⟨a, vs, h1, h2, h3⟩ := s.lat e r; exact ⟨a, vs, h1, .inl h2, h3⟩
  | lst es =>
    cases e
    cases r with
    | lst h1 h2 => exact ⟨_, _, rfl, .inl h1.sqL, h2⟩
  | fl es =>
    cases e
    cases r with
    | fl h1 h2 => exact ⟨_, _, rfl, .inl h1.sqL, h2⟩
  | _ => cases e
theorem StR.itemsO {K : PySem.W.Frag} {H : Hp} {μ : Mu} {S : Store} {d : D} {ds : List D} {v : V} (s : StR K H μ S) (e : MS.items S d = some ds) (r : Rp K H μ v d) : ∃ a vs, v = .ref a ∧ (SqL K H a vs ∨ (OwnT K H a vs ∧ d = .tup ds)) ∧ RpA K H μ vs ds := by
  cases d with
  | tup es =>
    cases e
    cases r with
    | tup h1 h2 => exact ⟨_, _, rfl, .inr ⟨h1, rfl⟩, h2⟩
  | lr n => obtain ⟨a, vs, h1, h2, h3⟩ := s.lat e r; exact ⟨a, vs, h1, .inl h2, h3⟩
  | lst es =>
    cases e
    cases r with
    | lst h1 h2 => exact ⟨_, _, rfl, .inl h1.sqL, h2⟩
  | fl es =>
    cases e
    cases r with
    | fl h1 h2 => exact ⟨_, _, rfl, .inl h1.sqL, h2⟩
  | _ => cases e
def szl : Nat := 16777216
theorem szl_le {n : Nat} (h : n ≤ szl) : n ≤ sizeLine := by rw [sizeLine_eq]; exact h
theorem szl_lt {n : Nat} (h : n < szl) : n < sizeLine := by rw [sizeLine_eq]; exact h
def fAdd : DOp2
  | .int i, .int j, S => some (.int (i + j), S)
  | .tup a, .tup b, S => if a.length + b.length ≤ szl then some (.tup (a ++ b), S) else none
  | .lr n, .lr m, S => (mat S n).bind fun a => (mat S m).bind fun b => if a.length + b.length ≤ szl then some (.lr S.length, S ++ [.lst (a ++ b)]) else none
  | .lst a, .lst b, S => if a.length + b.length ≤ szl then some (.lst (a ++ b), S) else none
  | _, _, _ => none
def fI (g : Int → Int → Int) : DOp2
  | .int i, .int j, S => some (.int (g i j), S)
  | _, _, _ => none
def fIc (c : Int → Int → Bool) (g : Int → Int → Int) : DOp2
  | .int i, .int j, S => if c i j then some (.int (g i j), S) else none
  | _, _, _ => none
def fCmp (g : Int → Int → Bool) : DOp2
  | .int i, .int j, S => some (.bl (g i j), S)
  | _, _, _ => none
def i64 (i : Int) : Bool := decide (-(2 ^ 64) < i) && decide (i < 2 ^ 64)
def fSub := fI fun i j => i - j
def fMod := fIc (fun _ j => decide (0 < j)) fun i j => i % j
def fPow := fIc (fun i j => decide (0 ≤ j) && decide (j ≤ 1000) && i64 i) fun i j => i ^ j.toNat
def fLt := fCmp fun i j => decide (i < j)
def fLe := fCmp fun i j => decide (i ≤ j)
def fGt := fCmp fun i j => decide (j < i)
def fGe := fCmp fun i j => decide (j ≤ i)
def repD (ds : List D) (k : Int) : List D := (List.replicate k.toNat ds).flatten
def fMul : DOp2
  | .int i, .int j, S => if i64 i || i64 j then some (.int (i * j), S) else none
  | .lr n, .int k, S => (mat S n).bind fun a => if -(2 ^ 63) ≤ k ∧ k < 2 ^ 63 ∧ a.length * k.toNat ≤ szl then some (.lr S.length, S ++ [.lst (repD a k)]) else none
  | .lst a, .int k, S => if -(2 ^ 63) ≤ k ∧ k < 2 ^ 63 ∧ a.length * k.toNat ≤ szl then some (.lst (repD a k), S) else none
  | _, _, _ => none
section
variable {X : Cx}
theorem op_fI {op : Value → Value → Sem Value} {g : Int → Int → Int} (h : OpR X op (rI0 fun i j => .int (g i j))) : OpR X op (rM X.K (fI g)) :=
  OpR.imp h fun x y H Q ⟨S, μ, dx, dy, d, S', s, rx, ry, e, q⟩ => by
    unfold fI at e
    split at e
    · cases e; cases rx; cases ry
      exact ⟨_, _, rfl, rfl, q.id s (.int _)⟩
    · cases e
theorem op_fIc {op : Value → Value → Sem Value} {c : Int → Int → Bool} {C : Int → Int → Prop} {g : Int → Int → Int} (h : OpR X op (rI C fun i j => .int (g i j))) (hc : ∀ i j, c i j = true → C i j) : OpR X op (rM X.K (fIc c g)) :=
  OpR.imp h fun x y H Q ⟨S, μ, dx, dy, d, S', s, rx, ry, e, q⟩ => by
    unfold fIc at e
    split at e
    · cases rx; cases ry
      split at e
      · rename_i h; cases e; exact ⟨_, _, rfl, rfl, hc _ _ h, q.id s (.int _)⟩
      · cases e
    · cases e
theorem op_fCmp {op : Value → Value → Sem Value} {g : Int → Int → Bool} (h : OpR X op (rI0 fun i j => .bl (g i j))) : OpR X op (rM X.K (fCmp g)) :=
  OpR.imp h fun x y H Q ⟨S, μ, dx, dy, d, S', s, rx, ry, e, q⟩ => by
    unfold fCmp at e
    split at e
    · cases e; cases rx; cases ry
      exact ⟨_, _, rfl, rfl, q.id s (.bl _)⟩
    · cases e
theorem i64_iff {i : Int} (h : i64 i = true) : -(2 ^ 64) < i ∧ i < 2 ^ 64 := by
  unfold i64 at h
  rw [Bool.and_eq_true, decide_eq_true_eq, decide_eq_true_eq] at h
  exact h
theorem cmul_of {i j : Int} (h : (i64 i || i64 j) = true) : CMul i j := by
  rw [Bool.or_eq_true] at h
  rcases h with h | h
  · exact .inl (i64_iff h)
  · exact .inr (i64_iff h)
theorem o_sub : OpR X (binaryOp .Sub) (rM X.K fSub) := op_fI op_sub
theorem o_mod : OpR X (binaryOp .Mod) (rM X.K fMod) := op_fIc op_mod fun _ _ h => of_decide_eq_true h
theorem o_pow : OpR X (binaryOp .Pow) (rM X.K fPow) := op_fIc op_pow fun i j h => by
  rw [Bool.and_eq_true, Bool.and_eq_true, decide_eq_true_eq, decide_eq_true_eq] at h
  have h2 := i64_iff h.2
  exact ⟨h.1.1, by omega, by omega⟩
theorem o_lt : OpR X (compareOp .Lt) (rM X.K fLt) := op_fCmp op_lt
theorem o_gt : OpR X (compareOp .Gt) (rM X.K fGt) := op_fCmp op_gt
theorem o_ge : OpR X (compareOp .GtE) (rM X.K fGe) := op_fCmp op_ge
theorem RpA.nil_of {K : PySem.W.Frag} {H : Hp} {μ : Mu} {vs : List V} {ds : List D} (r : RpA K H μ vs ds) : vs = [] ↔ ds = [] := by
  cases r <;> simp
theorem o_add : OpR X (binaryOp .Add) (rM X.K fAdd) := by
  intro pins s σ H x y v u Q I rx ry ⟨S, μ, dx, dy, d, S', st, px, py, e, q⟩
  unfold fAdd at e
  split at e
  · cases e; cases px; cases py
    exact op_add pins s σ H _ _ v u Q I rx ry ⟨_, _, rfl, rfl, q.id st (.int _)⟩
  · split at e
    · rename_i hz
      cases e
      cases px with
      | tup h1 h2 =>
      cases py with
      | tup h3 h4 =>
      refine op_catA pins s σ H _ _ v u Q I rx ry ⟨_, _, _, _, rfl, rfl, sq _ _ h1, sq _ _ h3, ?_, fun z => ?_, fun z1 z2 => ?_, fun _ _ p hp => q.tup st (h2.append h4) hp⟩
      · rw [h2.length, h4.length]; exact szl_le hz
      · have := h2.nil_of.mp z
        subst this
        exact q.id st (.tup h3 h4)
      · have := h4.nil_of.mp z2
        subst this
        exact q.id st (by rw [List.append_nil]; exact .tup h1 h2)
    · cases e
  · obtain ⟨a, e1, e⟩ := Option.bind_eq_some_iff.mp e
    obtain ⟨b, e2, e⟩ := Option.bind_eq_some_iff.mp e
    split at e
    · rename_i hz
      cases e
      obtain ⟨p1, vs, rfl, _, h1, h2⟩ := st.mat e1 px
      obtain ⟨p2, ws, rfl, _, h3, h4⟩ := st.mat e2 py
      refine op_cat pins s σ H _ _ v u Q I rx ry ⟨_, _, _, _, rfl, rfl, h1, h3, ?_, fun p hp => q.lst st (h2.append h4) hp⟩
      rw [h2.length, h4.length]; exact szl_le hz
    · cases e
  · split at e
    · rename_i hz
      cases e
      cases px with
      | lst h1 h2 =>
      cases py with
      | lst h3 h4 =>
      refine op_cat pins s σ H _ _ v u Q I rx ry ⟨_, _, _, _, rfl, rfl, h1.1, h3.1, ?_, fun p hp => q.lstV st (h2.append h4) hp⟩
      rw [h2.length, h4.length]; exact szl_le hz
    · cases e
  · cases e
theorem RpA.rep {K : PySem.W.Frag} {H : Hp} {μ : Mu} {vs : List V} {ds : List D} (r : RpA K H μ vs ds) : ∀ k : Nat, RpA K H μ (List.replicate k vs).flatten (List.replicate k ds).flatten
  | 0 => .nil
  | k + 1 => by
    rw [List.replicate_succ, List.replicate_succ, List.flatten_cons, List.flatten_cons]
    exact r.append (RpA.rep r k)
theorem o_mul : OpR X (binaryOp .Mult) (rM X.K fMul) := by
  intro pins s σ H x y v u Q I rx ry ⟨S, μ, dx, dy, d, S', st, px, py, e, q⟩
  unfold fMul at e
  split at e
  · split at e
    · rename_i h
      cases e; cases px; cases py
      exact op_mul pins s σ H _ _ v u Q I rx ry ⟨_, _, rfl, rfl, cmul_of h, q.id st (.int _)⟩
    · cases e
  · obtain ⟨a, e1, e⟩ := Option.bind_eq_some_iff.mp e
    split at e
    · rename_i h
      cases e
      obtain ⟨p1, vs, rfl, _, h1, h2⟩ := st.mat e1 px
      cases py
      refine op_rep pins s σ H _ _ v u Q I rx ry ⟨_, _, _, rfl, rfl, h1, h.1, h.2.1, ?_, fun p hp => q.lst st (h2.rep _) hp⟩
      rw [h2.length]; exact szl_le h.2.2
    · cases e
  · split at e
    · rename_i h
      cases e
      cases px with
      | lst h1 h2 =>
      cases py
      refine op_rep pins s σ H _ _ v u Q I rx ry ⟨_, _, _, rfl, rfl, h1.1, h.1, h.2.1, ?_, fun p hp => q.lstV st (h2.rep _) hp⟩
      rw [h2.length]; exact szl_le h.2.2
    · cases e
  · cases e
end
def toPy (S : Store) : Nat → D → Option PyData
  | 0, _ => none
  | _ + 1, .non => some .none
  | _ + 1, .bl b => some (.bool b)
  | _ + 1, .int i => some (.int i)
  | _ + 1, .str x => some (.str x)
  | n + 1, .tup ds => (ds.mapM (toPy S n)).map .tuple
  | n + 1, .lr k => (lat S k).bind fun ds => (ds.mapM (toPy S n)).map .list
  | n + 1, .lst ds => (ds.mapM (toPy S n)).map .list
  | n + 1, .fl ds => (ds.mapM (toPy S n)).map .list
  | _ + 1, _ => none
section
variable {K : PySem.W.Frag} {H : Hp} {μ : Mu} {S : Store}
theorem dpAll_of {n : Nat} (ih : ∀ (d : D) (v : V) (p : PyData), toPy S n d = some p → Rp K H μ v d → Dp K H v p) : ∀ (ds : List D) (vs : List V) (ps : List PyData), ds.mapM (toPy S n) = some ps → RpA K H μ vs ds → DpAll K H vs ps
  | [], _, _, e, r => by
    cases r
    rw [List.mapM_nil] at e
    cases e
    exact .nil
  | d :: ds, _, _, e, r => by
    cases r with
    | cons r1 r2 =>
      rw [List.mapM_cons] at e
      obtain ⟨p, e1, e⟩ := Option.bind_eq_some_iff.mp e
      obtain ⟨ps, e2, e⟩ := Option.bind_eq_some_iff.mp e
      cases e
      exact .cons (ih _ _ _ e1 r1) (dpAll_of ih ds _ _ e2 r2)
theorem dp_of (s : StR K H μ S) : ∀ (n : Nat) (d : D) (v : V) (p : PyData), toPy S n d = some p → Rp K H μ v d → Dp K H v p := by
  intro n
  induction n with
  | zero => intro d v p e; cases e
  | succ n ih =>
    intro d v p e r
    cases d with
    | non => cases e; cases r; exact .non
    | bl b => cases e; cases r; exact .bl _
    | int b => cases e; cases r; exact .int _
    | str b => cases e; cases r; exact .str _
    | tup ds =>
      obtain ⟨ps, e1, e2⟩ := Option.map_eq_some_iff.mp (show (ds.mapM (toPy S n)).map PyData.tuple = some p from e)
      subst e2
      cases r with
      | tup h1 h2 => exact .tup (sq _ _ h1) (dpAll_of ih _ _ _ e1 h2)
    | lr k =>
      obtain ⟨ds, e0, e⟩ := Option.bind_eq_some_iff.mp (show ((lat S k).bind fun ds => (ds.mapM (toPy S n)).map PyData.list) = some p from e)
      obtain ⟨ps, e1, e2⟩ := Option.map_eq_some_iff.mp e
      subst e2
      obtain ⟨a, vs, rfl, h1, h2⟩ := s.lat e0 r
      exact .lst h1 (dpAll_of ih _ _ _ e1 h2)
    | lst ds =>
      obtain ⟨ps, e1, e2⟩ := Option.map_eq_some_iff.mp (show (ds.mapM (toPy S n)).map PyData.list = some p from e)
      subst e2
      cases r with
      | lst h1 h2 => exact .lst h1.sqL (dpAll_of ih _ _ _ e1 h2)
    | fl ds =>
      obtain ⟨ps, e1, e2⟩ := Option.map_eq_some_iff.mp (show (ds.mapM (toPy S n)).map PyData.list = some p from e)
      subst e2
      cases r with
      | fl h1 h2 => exact .lst h1.sqL (dpAll_of ih _ _ _ e1 h2)
    | _ => cases e
end
theorem dec_int (i j : Int) : decide (V.int i = V.int j) = decide (i = j) := by simp only [V.int.injEq]
theorem dec_str (i j : Str) : decide (V.str i = V.str j) = decide (i = j) := by simp only [V.str.injEq]
def fEqG (g : Bool → Bool) : DOp2 := fun x y S => (toPy S 64 x).bind fun p => (toPy S 64 y).bind fun q => if SeqAt.shaped p && SeqAt.shaped q then some (.bl (g (PyData.eqv p q)), S) else none
def fEq : DOp2 := fun x y S => match x, y with
  | .int i, .int j => some (.bl (decide (i = j)), S)
  | .str i, .str j => some (.bl (decide (i = j)), S)
  | x, y => fEqG id x y S
def fNe : DOp2 := fun x y S => match x, y with
  | .int i, .int j => some (.bl (!decide (i = j)), S)
  | .str i, .str j => some (.bl (!decide (i = j)), S)
  | x, y => fEqG not x y S
section
variable {X : Cx}
theorem o_eqG (hu : X.A.units + 64 < cLine) : OpR X (compareOp .Eq) (rM X.K (fEqG id)) :=
  OpR.imp (op_eqD hu) fun x y H Q ⟨S, μ, dx, dy, d, S', s, rx, ry, e, q⟩ => by
    unfold fEqG at e
    obtain ⟨p, e1, e⟩ := Option.bind_eq_some_iff.mp e
    obtain ⟨p', e2, e⟩ := Option.bind_eq_some_iff.mp e
    split at e
    · rename_i h
      rw [Bool.and_eq_true] at h
      cases e
      exact ⟨p, p', dp_of s _ _ _ _ e1 rx, dp_of s _ _ _ _ e2 ry, h.1, h.2, q.id s (.bl _)⟩
    · cases e
theorem o_neG (hu : X.A.units + 64 < cLine) : OpR X (compareOp .NotEq) (rM X.K (fEqG not)) :=
  OpR.imp (op_neD hu) fun x y H Q ⟨S, μ, dx, dy, d, S', s, rx, ry, e, q⟩ => by
    unfold fEqG at e
    obtain ⟨p, e1, e⟩ := Option.bind_eq_some_iff.mp e
    obtain ⟨p', e2, e⟩ := Option.bind_eq_some_iff.mp e
    split at e
    · rename_i h
      rw [Bool.and_eq_true] at h
      cases e
      exact ⟨p, p', dp_of s _ _ _ _ e1 rx, dp_of s _ _ _ _ e2 ry, h.1, h.2, q.id s (.bl _)⟩
    · cases e
theorem o_eq (hu : X.A.units + 64 < cLine) : OpR X (compareOp .Eq) (rM X.K fEq) := by
  intro pins s σ H x y v u Q I rx ry ⟨S, μ, dx, dy, d, S', st, px, py, e, q⟩
  unfold fEq at e
  split at e
  · cases e; cases px; cases py
    exact op_eq pins s σ H _ _ v u Q I rx ry ⟨rfl, by rw [dec_int]; exact q.id st (.bl _)⟩
  · cases e; cases px; cases py
    exact op_eq pins s σ H _ _ v u Q I rx ry ⟨rfl, by rw [dec_str]; exact q.id st (.bl _)⟩
  · exact o_eqG hu pins s σ H x y v u Q I rx ry ⟨S, μ, _, _, d, S', st, px, py, e, q⟩
theorem o_ne (hu : X.A.units + 64 < cLine) : OpR X (compareOp .NotEq) (rM X.K fNe) := by
  intro pins s σ H x y v u Q I rx ry ⟨S, μ, dx, dy, d, S', st, px, py, e, q⟩
  unfold fNe at e
  split at e
  · cases e; cases px; cases py
    exact op_ne pins s σ H _ _ v u Q I rx ry ⟨rfl, by rw [dec_int]; exact q.id st (.bl _)⟩
  · cases e; cases px; cases py
    exact op_ne pins s σ H _ _ v u Q I rx ry ⟨rfl, by rw [dec_str]; exact q.id st (.bl _)⟩
  · exact o_neG hu pins s σ H x y v u Q I rx ry ⟨S, μ, _, _, d, S', st, px, py, e, q⟩
end
def flatD : D → Bool
  | .non => true
  | .bl _ => true
  | .int _ => true
  | .str _ => true
  | _ => false
def toV : D → V
  | .bl b => .bl b
  | .int i => .int i
  | .str x => .str x
  | _ => .non
theorem Rp.flat {K : PySem.W.Frag} {H : Hp} {μ : Mu} {v : V} {d : D} (r : Rp K H μ v d) (f : flatD d = true) : v = toV d ∧ flatV v = true := by
  cases d with
  | non => cases r; exact ⟨rfl, rfl⟩
  | bl b => cases r; exact ⟨rfl, rfl⟩
  | int b => cases r; exact ⟨rfl, rfl⟩
  | str b => cases r; exact ⟨rfl, rfl⟩
  | _ => cases f
theorem RpA.flat {K : PySem.W.Frag} {H : Hp} {μ : Mu} : ∀ {ds : List D} {vs : List V}, RpA K H μ vs ds → ds.all flatD = true → vs = ds.map toV ∧ vs.all flatV = true
  | [], _, r, _ => by cases r; exact ⟨rfl, rfl⟩
  | d :: ds, _, r, f => by
    cases r with
    | cons r1 r2 =>
      rw [List.all_cons, Bool.and_eq_true] at f
      obtain ⟨h1, h2⟩ := r1.flat f.1
      obtain ⟨h3, h4⟩ := RpA.flat r2 f.2
      exact ⟨by rw [h1, h3]; rfl, by rw [List.all_cons, h2, h4]; rfl⟩
def inD (x : D) (ds : List D) : Bool := inV (toV x) (ds.map toV)
def fIn (neg : Bool) : DOp2 := fun x y S => (items S y).bind fun ds => if flatD x && ds.all flatD then some (.bl (if neg then !inD x ds else inD x ds), S) else none
section
variable {X : Cx}
theorem fIn_r {neg : Bool} {x y : V} {H : Hp} {Q : VK} (h : rM X.K (fIn neg) x y H Q) : rIn X.K neg x y H Q := by
  obtain ⟨S, μ, dx, dy, d, S', s, rx, ry, e, q⟩ := h
  unfold fIn at e
  obtain ⟨ds, e1, e⟩ := Option.bind_eq_some_iff.mp e
  split at e
  · rename_i h
    rw [Bool.and_eq_true] at h
    cases e
    obtain ⟨a, vs, rfl, h1, h2⟩ := s.items e1 ry
    obtain ⟨h3, h4⟩ := rx.flat h.1
    obtain ⟨h5, h6⟩ := h2.flat h.2
    refine ⟨a, vs, rfl, h1, h4, h6, ?_⟩
    have := q.id s (.bl _)
    unfold inD at this
    rw [h3, h5]
    exact this
  · cases e
theorem o_in : OpR X (compareOp .In) (rM X.K (fIn false)) := OpR.imp op_in_seq fun _ _ _ _ h => fIn_r h
theorem o_notIn : OpR X (compareOp .NotIn) (rM X.K (fIn true)) := OpR.imp op_notIn_seq fun _ _ _ _ h => fIn_r h
def fIx : DOp2
  | .lr n, .int i, S => (lat S n).bind fun ds => (atI ds i).map fun d => (d, S)
  | .tup ds, .int i, S => (atI ds i).map fun d => (d, S)
  | .lst ds, .int i, S => (atI ds i).map fun d => (d, S)
  | .fl ds, .int i, S => (atI ds i).map fun d => (d, S)
  | _, _, _ => none
theorem RpA.atI {K : PySem.W.Frag} {H : Hp} {μ : Mu} {vs : List V} {ds : List D} {i : Int} {d : D} (r : RpA K H μ vs ds) (e : L2.atI ds i = some d) : ∃ v, L2.atI vs i = some v ∧ Rp K H μ v d := by
  unfold L2.atI at e ⊢
  rw [r.length]
  cases h : ixN ds.length i with
  | none => rw [h] at e; cases e
  | some j => rw [h] at e; exact r.get e
theorem me_ix {a b : Expr} {ma mb : MExp} {pos : Pos} (ha : ME X a ma) (hb : ME X b mb) (hs : PlainIx b) : ME X (.Subscript a b pos) (mBin fIx ma mb) := by
  refine ⟨PE.imp (pe_ix (r := rM X.K fIx) ?_ ha.pe hb.pe hs) fun _ _ _ h => tE_bin h⟩
  intro value slice pins s σ H x y v u Q I rx ry ⟨S, μ, dx, dy, d, S', st, px, py, e, q⟩ hs
  refine ix_seq value slice pins s σ H x y v u Q I rx ry ?_ hs
  unfold fIx at e
  split at e
  · obtain ⟨ds, e1, e⟩ := Option.bind_eq_some_iff.mp e
    obtain ⟨d', e2, e⟩ := Option.map_eq_some_iff.mp e
    cases e; cases py
    obtain ⟨p, vs, rfl, h1, h2⟩ := st.lat e1 px
    obtain ⟨w, h3, h4⟩ := h2.atI e2
    exact .inl ⟨p, vs, _, w, rfl, rfl, h1, h3, q.id st h4⟩
  · obtain ⟨d', e2, e⟩ := Option.map_eq_some_iff.mp e
    cases e; cases py
    cases px with
    | tup h1 h2 =>
    obtain ⟨w, h3, h4⟩ := h2.atI e2
    exact .inr (.inl ⟨_, _, _, w, rfl, rfl, sq _ _ h1, h3, q.id st h4⟩)
  · obtain ⟨d', e2, e⟩ := Option.map_eq_some_iff.mp e
    cases e; cases py
    cases px with
    | lst h1 h2 =>
    obtain ⟨w, h3, h4⟩ := h2.atI e2
    exact .inl ⟨_, _, _, w, rfl, rfl, h1.sqL, h3, q.id st h4⟩
  · obtain ⟨d', e2, e⟩ := Option.map_eq_some_iff.mp e
    cases e; cases py
    cases px with
    | fl h1 h2 =>
    obtain ⟨w, h3, h4⟩ := h2.atI e2
    exact .inl ⟨_, _, _, w, rfl, rfl, h1.sqL, h3, q.id st h4⟩
  · cases e
abbrev MPart := Ev → Store → Option (Option Int × Store)
def tP (K : PySem.W.Frag) (m : MPart) : TO := fun σ H Q => ∃ ρ S μ o S', Sim K H μ σ ρ S ∧ m ρ S = some (o, S') ∧ ∀ H' μ', Grow H H' μ μ' → StR K H' μ' S' → Q o H'
structure MP (X : Cx) (e : Option Expr) (m : MPart) : Prop where
  po : PO X e (tP X.K m)
def mNoPart : MPart := fun _ S => some (none, S)
def mPart (m : MExp) : MPart := fun ρ S => (m ρ S).bind fun p => match p.1 with
  | .int i => some (some i, p.2)
  | _ => none
theorem mp_none : MP X none mNoPart := ⟨⟨fun pins s σ H Q I ⟨ρ, S, μ, o, S', st, e, q⟩ => po_none.run pins s σ H Q I (by cases e; exact q H μ .refl st.st)⟩⟩
theorem mp_some {e : Expr} {m : MExp} (h : ME X e m) : MP X (some e) (mPart m) := ⟨⟨fun pins s σ H Q I ⟨ρ, S, μ, o, S', st, e, q⟩ => (po_some h.pe).run pins s σ H Q I (by
  unfold mPart at e
  obtain ⟨⟨d, S1⟩, e1, e⟩ := Option.bind_eq_some_iff.mp e
  refine ⟨ρ, S, μ, d, S1, st, e1, fun v H1 μ1 g1 s1 r1 => ?_⟩
  cases d with
  | int i => cases e; cases r1; exact ⟨i, rfl, q H1 μ1 g1 s1⟩
  | _ => cases e)⟩⟩
def cutD (xs : List D) (lo hi : Option Int) : List D := (xs.drop (HT.sIx xs.length 0 lo)).take (HT.sIx xs.length xs.length hi - HT.sIx xs.length 0 lo)
theorem RpA.cut {K : PySem.W.Frag} {H : Hp} {μ : Mu} {vs : List V} {ds : List D} (r : RpA K H μ vs ds) (lo hi : Option Int) : RpA K H μ (cutV vs lo hi) (cutD ds lo hi) := by
  unfold cutV cutD
  rw [r.length]
  exact (r.drop _).take _
def fSl (x : D) (lo hi : Option Int) (S : Store) : Option (D × Store) := match x with
  | .lr n => (lat S n).bind fun ds => some (.lr S.length, S ++ [.lst (cutD ds lo hi)])
  | .tup ds => some (.tup (cutD ds lo hi), S)
  | .lst ds => some (.lst (cutD ds lo hi), S)
  | .fl ds => some (.lst (cutD ds lo hi), S)
  | _ => none
def mSl (m : MExp) (lo hi : MPart) : MExp := fun ρ S => (m ρ S).bind fun p => (lo ρ p.2).bind fun q => (hi ρ q.2).bind fun r => fSl p.1 q.1 r.1 r.2
theorem cutD_whole {ds : List D} {lo hi : Option Int} (h : HT.sIx ds.length 0 lo = 0 ∧ HT.sIx ds.length ds.length hi = ds.length) : cutD ds lo hi = ds := by
  unfold cutD
  rw [h.1, h.2]
  simp
theorem me_slice {e : Expr} {m : MExp} {lo hi : Option Expr} {ml mh : MPart} {pos p2 : Pos} (h : ME X e m) (hl : MP X lo ml) (hh : MP X hi mh) : ME X (.Subscript e (.Slice lo hi none p2) pos) (mSl m ml mh) := by
  refine ⟨PE.imp (pe_slice (sl_list.or sl_tupA) h.pe hl.po hh.po) fun σ H Q ⟨ρ, S, μ, d, S', st, e, q⟩ => ?_⟩
  unfold mSl at e
  obtain ⟨⟨d1, S1⟩, e1, e⟩ := Option.bind_eq_some_iff.mp e
  obtain ⟨⟨o1, S2⟩, e2, e⟩ := Option.bind_eq_some_iff.mp e
  obtain ⟨⟨o2, S3⟩, e3, e⟩ := Option.bind_eq_some_iff.mp e
  refine ⟨ρ, S, μ, d1, S1, st, e1, fun v H1 μ1 g1 s1 r1 => ?_⟩
  refine ⟨ρ, S1, μ1, o1, S2, st.grow g1 s1, e2, fun H2 μ2 g2 s2 => ?_⟩
  refine ⟨ρ, S2, μ2, o2, S3, st.grow (g1.trans g2) s2, e3, fun H3 μ3 g3 s3 => ?_⟩
  have r3 := r1.grow (g2.trans g3)
  have q3 : Aft X.K H3 μ3 d S' Q := fun v H' μ' g4 => q v H' μ' (((g1.trans g2).trans g3).trans g4)
  cases d1 with
  | lr n =>
    obtain ⟨ds, e4, e⟩ := Option.bind_eq_some_iff.mp (show ((lat S3 n).bind fun ds => some (D.lr S3.length, S3 ++ [.lst (cutD ds o1 o2)])) = some (d, S') from e)
    cases e
    obtain ⟨a, vs, rfl, h1, h2⟩ := s3.lat e4 r3
    exact .inl ⟨a, vs, rfl, h1, fun p hp => q3.lst s3 (h2.cut _ _) hp⟩
  | tup ds =>
    cases (show some (D.tup (cutD ds o1 o2), S3) = some (d, S') from e)
    cases r3 with
    | tup h1 h2 =>
    refine .inr ⟨_, _, rfl, sq _ _ h1, fun hw => ?_, fun hw p hp => q3.tup s3 (h2.cut _ _) hp⟩
    rw [h2.length] at hw
    exact q3.id s3 (by rw [cutD_whole hw]; exact .tup h1 h2)
  | lst ds =>
    cases (show some (D.lst (cutD ds o1 o2), S3) = some (d, S') from e)
    cases r3 with
    | lst h1 h2 => exact .inl ⟨_, _, rfl, h1.sqL, fun p hp => q3.lstV s3 (h2.cut _ _) hp⟩
  | fl ds =>
    cases (show some (D.lst (cutD ds o1 o2), S3) = some (d, S') from e)
    cases r3 with
    | fl h1 h2 => exact .inl ⟨_, _, rfl, h1.sqL, fun p hp => q3.lstV s3 (h2.cut _ _) hp⟩
  | _ => cases e
end
end MS
set_option Elab.async false
set_option linter.all false
set_option maxRecDepth 100000
set_option maxHeartbeats 4000000
namespace MS
open PySem PySem.Spec PyProof.Rows L2
def mTup (m : MArg) : MExp := fun ρ S => (m ρ S).bind fun p => if p.1.length ≤ szl then some (.tup p.1, p.2) else none
def mLst (m : MArg) : MExp := fun ρ S => (m ρ S).bind fun p => if p.1.length ≤ szl then some (.lr p.2.length, p.2 ++ [.lst p.1]) else none
section
variable {X : Cx} {es : List Expr} {m : MArg} {pos : Pos}
theorem me_tup {x1} (h : MA X es m) : ME X (.Tuple es x1 pos) (mTup m) :=
  ⟨PE.imp (pe_tup h.pa) fun σ H Q ⟨ρ, S, μ, d, S', st, e, q⟩ => by
    unfold mTup at e
    obtain ⟨⟨ds, S1⟩, e1, e⟩ := Option.bind_eq_some_iff.mp e
    split at e
    · rename_i hz
      cases e
      exact ⟨ρ, S, μ, ds, _, st, e1, fun vs H1 μ1 g1 s1 r1 => ⟨by rw [r1.length]; exact szl_le hz, fun p hp => Aft.tup (fun v H' μ' g2 => q v H' μ' (g1.trans g2)) s1 r1 hp⟩⟩
    · cases e⟩
theorem me_lst (h : MA X es m) : ME X (.List es pos) (mLst m) :=
  ⟨PE.imp (pe_lst h.pa) fun σ H Q ⟨ρ, S, μ, d, S', st, e, q⟩ => by
    unfold mLst at e
    obtain ⟨⟨ds, S1⟩, e1, e⟩ := Option.bind_eq_some_iff.mp e
    split at e
    · rename_i hz
      cases e
      exact ⟨ρ, S, μ, ds, _, st, e1, fun vs H1 μ1 g1 s1 r1 => ⟨by rw [r1.length]; exact szl_le hz, fun p hp => Aft.lst (fun v H' μ' g2 => q v H' μ' (g1.trans g2)) s1 r1 hp⟩⟩
    · cases e⟩
end
def mB (m : MExp) : MTst := fun ρ S => (m ρ S).bind fun p => match p.1 with
  | .bl b => some (b, p.2)
  | _ => none
def mAnd (a b : MTst) : MTst := fun ρ S => (a ρ S).bind fun p => if p.1 then b ρ p.2 else some (false, p.2)
def mOr (a b : MTst) : MTst := fun ρ S => (a ρ S).bind fun p => if p.1 then some (true, p.2) else b ρ p.2
def mNot (a : MTst) : MTst := fun ρ S => (a ρ S).bind fun p => some (!p.1, p.2)
def mIf (t : MTst) (a b : MExp) : MExp := fun ρ S => (t ρ S).bind fun p => if p.1 then a ρ p.2 else b ρ p.2
section
variable {X : Cx} {a b c e : Expr} {rest : List Expr} {m : MExp} {ta tb : MTst} {ma mb : MExp} {pos : Pos}
theorem tT_val {σ : L2.St} {H : Hp} {Q : Bool → Hp → Prop} (h : tT X.K (mB m) σ H Q) : tE X.K m σ H fun x H1 => ∃ k, x = .bl k ∧ Q k H1 := by
  obtain ⟨ρ, S, μ, k, S', st, e, q⟩ := h
  unfold mB at e
  obtain ⟨⟨d, S1⟩, e1, e⟩ := Option.bind_eq_some_iff.mp e
  refine ⟨ρ, S, μ, d, S1, st, e1, fun v H1 μ1 g1 s1 r1 => ?_⟩
  cases d with
  | bl b => cases e; cases r1; exact ⟨_, rfl, q H1 μ1 g1 s1⟩
  | _ => cases e
theorem mt_val (h : ME X e m) (he : ∀ whole, isTrue e X.env whole = (do let v ← whole; standAt e.pos; holding [v] (truthy v)) := by intro _; rfl) : MT X e (mB m) := ⟨PT.imp (pt_val h.pe he) fun _ _ _ h => tT_val h⟩
theorem mt_cmp {f : DOp2} {op : CmpOp} (ho : OpR X (compareOp op) (rM X.K f)) (ha : ME X a ma) (hb : ME X b mb) (hm : behindInMarks op b = false) : MT X (.Compare a [op] [b] pos) (mB (mBin f ma mb)) :=
  ⟨PT.imp (pt_cmpR ho ha.pe hb.pe hm) fun σ H Q h => by
    obtain ⟨ρ, S, μ, d, S', st, e, q⟩ := tT_val h
    exact tE_bin ⟨ρ, S, μ, d, S', st, e, q⟩⟩
theorem tT_and {σ : L2.St} {H : Hp} {Q : Bool → Hp → Prop} (h : tT X.K (mAnd ta tb) σ H Q) : tAnd (tT X.K ta) (tT X.K tb) σ H Q := by
  obtain ⟨ρ, S, μ, k, S', st, e, q⟩ := h
  unfold mAnd at e
  obtain ⟨⟨k1, S1⟩, e1, e⟩ := Option.bind_eq_some_iff.mp e
  refine ⟨ρ, S, μ, k1, S1, st, e1, fun H1 μ1 g1 s1 => ?_⟩
  cases k1 with
  | true => exact iteT ⟨ρ, S1, μ1, k, S', st.grow g1 s1, e, fun H2 μ2 g2 s2 => q H2 μ2 (g1.trans g2) s2⟩
  | false => cases e; exact iteF (q H1 μ1 g1 s1)
theorem tT_or {σ : L2.St} {H : Hp} {Q : Bool → Hp → Prop} (h : tT X.K (mOr ta tb) σ H Q) : tOr (tT X.K ta) (tT X.K tb) σ H Q := by
  obtain ⟨ρ, S, μ, k, S', st, e, q⟩ := h
  unfold mOr at e
  obtain ⟨⟨k1, S1⟩, e1, e⟩ := Option.bind_eq_some_iff.mp e
  refine ⟨ρ, S, μ, k1, S1, st, e1, fun H1 μ1 g1 s1 => ?_⟩
  cases k1 with
  | false => exact iteF ⟨ρ, S1, μ1, k, S', st.grow g1 s1, e, fun H2 μ2 g2 s2 => q H2 μ2 (g1.trans g2) s2⟩
  | true => cases e; exact iteT (q H1 μ1 g1 s1)
theorem mw_and1 (h : MT X a ta) : MW X (.BoolOp .And [a] pos) ta := ⟨pw_and1 h.pt⟩
theorem mw_or1 (h : MT X a ta) : MW X (.BoolOp .Or [a] pos) ta := ⟨pw_or1 h.pt⟩
theorem mw_and (h : MT X a ta) (k : MW X (.BoolOp .And (b :: rest) pos) tb) : MW X (.BoolOp .And (a :: b :: rest) pos) (mAnd ta tb) := ⟨PW.imp (pw_and h.pt k.pw) fun _ _ _ h => tT_and h⟩
theorem mw_or (h : MT X a ta) (k : MW X (.BoolOp .Or (b :: rest) pos) tb) : MW X (.BoolOp .Or (a :: b :: rest) pos) (mOr ta tb) := ⟨PW.imp (pw_or h.pt k.pw) fun _ _ _ h => tT_or h⟩
theorem MW.mt (h : MW X e ta) : MT X e ta := ⟨h.pw.pt⟩
theorem mt_not (h : MT X a ta) : MT X (.UnaryOp .Not a pos) (mNot ta) := ⟨PT.imp (pt_not h.pt) fun σ H Q ⟨ρ, S, μ, k, S', st, e, q⟩ => by
  unfold mNot at e
  obtain ⟨⟨k1, S1⟩, e1, e⟩ := Option.bind_eq_some_iff.mp e
  cases e
  exact ⟨ρ, S, μ, k1, _, st, e1, fun H1 μ1 g1 s1 => q H1 μ1 g1 s1⟩⟩
theorem me_ifExp (hc : MT X c ta) (ha : ME X a ma) (hb : ME X b mb) : ME X (.IfExp c a b pos) (mIf ta ma mb) := ⟨PE.imp (pe_ifExp hc.pt ha.pe hb.pe) fun σ H Q ⟨ρ, S, μ, d, S', st, e, q⟩ => by
  unfold mIf at e
  obtain ⟨⟨k1, S1⟩, e1, e⟩ := Option.bind_eq_some_iff.mp e
  refine ⟨ρ, S, μ, k1, S1, st, e1, fun H1 μ1 g1 s1 => ?_⟩
  have q' : Aft X.K H1 μ1 d S' Q := fun v H2 μ2 g2 => q v H2 μ2 (g1.trans g2)
  cases k1 with
  | true => exact iteT ⟨ρ, S1, μ1, d, S', st.grow g1 s1, e, q'⟩
  | false => exact iteF ⟨ρ, S1, μ1, d, S', st.grow g1 s1, e, q'⟩⟩
def mAndV (a b : MExp) : MExp := fun ρ S => (a ρ S).bind fun p => match p.1 with
  | .bl true => b ρ p.2
  | .bl false => some (.bl false, p.2)
  | _ => none
def mOrV (a b : MExp) : MExp := fun ρ S => (a ρ S).bind fun p => match p.1 with
  | .bl false => b ρ p.2
  | .bl true => some (.bl true, p.2)
  | _ => none
def mNotV (a : MExp) : MExp := fun ρ S => (a ρ S).bind fun p => match p.1 with
  | .bl b => some (.bl (!b), p.2)
  | _ => none
theorem me_one {op} (h : ME X a m) : ME X (.BoolOp op [a] pos) m := ⟨pe_one h.pe⟩
theorem me_and (ha : ME X a ma) (hb : ME X (.BoolOp .And (b :: rest) pos) mb) : ME X (.BoolOp .And (a :: b :: rest) pos) (mAndV ma mb) := ⟨PE.imp (pe_and ha.pe hb.pe) fun σ H Q ⟨ρ, S, μ, d, S', st, e, q⟩ => by
  obtain ⟨⟨d1, S1⟩, e1, e⟩ := Option.bind_eq_some_iff.mp e
  refine ⟨ρ, S, μ, d1, S1, st, e1, fun v H1 μ1 g1 s1 r1 => ?_⟩
  cases d1 with
  | bl k =>
    cases r1
    cases k with
    | true => exact ⟨_, rfl, iteT ⟨ρ, S1, μ1, d, S', st.grow g1 s1, e, fun v H2 μ2 g2 => q v H2 μ2 (g1.trans g2)⟩⟩
    | false => cases e; exact ⟨_, rfl, iteF (q _ H1 μ1 g1 s1 (.bl _))⟩
  | _ => cases e⟩
def mNeg (a : MExp) : MExp := fun ρ S => (a ρ S).bind fun p => match p.1 with
  | .int i => some (.int (-i), p.2)
  | _ => none
theorem me_neg (ha : ME X a ma) : ME X (.UnaryOp .USub a pos) (mNeg ma) := ⟨PE.imp (pe_un un_neg ha.pe) fun σ H Q ⟨ρ, S, μ, d, S', st, e, q⟩ => by
  obtain ⟨⟨d1, S1⟩, e1, e⟩ := Option.bind_eq_some_iff.mp e
  refine ⟨ρ, S, μ, d1, S1, st, e1, fun v H1 μ1 g1 s1 r1 => ?_⟩
  cases d1 with
  | int k => cases r1; cases e; exact ⟨_, rfl, q _ H1 μ1 g1 s1 (.int _)⟩
  | _ => cases e⟩
def mChain (f g : DOp2) (ma mb mc : MExp) : MExp := fun ρ S => (ma ρ S).bind fun p => (mb ρ p.2).bind fun q => (f p.1 q.1 q.2).bind fun r => match r.1 with
  | .bl true => (mc ρ r.2).bind fun t => g q.1 t.1 t.2
  | .bl false => some (.bl false, r.2)
  | _ => none
end
def mNx : MStm := fun ρ S => some (.nx, ρ, S)
def mSeq (a b : MStm) : MStm := fun ρ S => (a ρ S).bind fun p => match p.1 with
  | .nx => b p.2.1 p.2.2
  | f => some (f, p.2.1, p.2.2)
def mRet (m : MExp) : MStm := fun ρ S => (m ρ S).bind fun p => some (.rt p.1, ρ, p.2)
def mDrop (m : MExp) : MStm := fun ρ S => (m ρ S).bind fun p => some (.nx, ρ, p.2)
def mIfS (t : MTst) (a b : MStm) : MStm := fun ρ S => (t ρ S).bind fun p => if p.1 then a ρ p.2 else b ρ p.2
def mAsg (m : MExp) (g : MTg) : MStm := fun ρ S => (m ρ S).bind fun p => (g p.1 ρ p.2).bind fun q => some (.nx, q.1, q.2)
section
variable {X : Cx} {st : Stmt} {rest : List Stmt} {m m' : MStm} {e : Expr} {me : MExp} {pos : Pos}
theorem mss_nil : MSs X [] mNx := ⟨PSs.imp pss_nil fun D σ H ⟨ρ, S, μ, f, ρ', S', s, e, q⟩ => by cases e; exact q σ H μ .refl s⟩
theorem mss_cons (h : MS_ X st m) (k : MSs X rest m') : MSs X (st :: rest) (mSeq m m') := ⟨PSs.imp (pss_cons h.ps k.pss) fun D σ H ⟨ρ, S, μ, f, ρ', S', s, e, q⟩ => by
  obtain ⟨⟨f1, ρ1, S1⟩, e1, e⟩ := Option.bind_eq_some_iff.mp e
  refine ⟨ρ, S, μ, f1, ρ1, S1, s, e1, fun σ1 H1 μ1 g1 s1 => ?_⟩
  cases f1 with
  | nx => exact ⟨ρ1, S1, μ1, f, ρ', S', s1, e, fun σ2 H2 μ2 g2 s2 => q σ2 H2 μ2 (g1.trans g2) s2⟩
  | bk => cases e; exact q σ1 H1 μ1 g1 s1
  | ct => cases e; exact q σ1 H1 μ1 g1 s1
  | rt d => cases e; exact q σ1 H1 μ1 g1 s1⟩
theorem mss_one (h : MS_ X st m) : MSs X [st] m := ⟨pss_one h.ps⟩
theorem ms_ret (h : ME X e me) : MS_ X (.Return (some e) pos) (mRet me) := ⟨PS.imp (ps_ret h.pe) fun D σ H ⟨ρ, S, μ, f, ρ', S', s, e, q⟩ => by
  obtain ⟨⟨d, S1⟩, e1, e⟩ := Option.bind_eq_some_iff.mp e
  cases e
  exact ⟨ρ, S, μ, d, S1, s, e1, fun v H1 μ1 g1 s1 r1 => q σ H1 μ1 g1 (s.grow g1 s1) v r1⟩⟩
theorem ms_expr (h : ME X e me) (hs : swapsWith e none pos.line X.env = pure false := by rfl) : MS_ X (.Expr e pos) (mDrop me) := ⟨PS.imp (ps_expr h.pe hs) fun D σ H ⟨ρ, S, μ, f, ρ', S', s, e, q⟩ => by
  obtain ⟨⟨d, S1⟩, e1, e⟩ := Option.bind_eq_some_iff.mp e
  cases e
  exact ⟨ρ, S, μ, d, S1, s, e1, fun v H1 μ1 g1 s1 r1 => q σ H1 μ1 g1 (s.grow g1 s1)⟩⟩
theorem ms_if {c : Expr} {a b : List Stmt} {t : MTst} (hc : MT X c t) (ha : MSs X a m) (hb : MSs X b m') : MS_ X (.If c a b pos) (mIfS t m m') := ⟨PS.imp (ps_if hc.pt ha.pss hb.pss) fun D σ H ⟨ρ, S, μ, f, ρ', S', s, e, q⟩ => by
  obtain ⟨⟨k, S1⟩, e1, e⟩ := Option.bind_eq_some_iff.mp e
  refine ⟨ρ, S, μ, k, S1, s, e1, fun H1 μ1 g1 s1 => ?_⟩
  have q' : ∀ σ' H' μ', Grow H1 H' μ1 μ' → Sim X.K H' μ' σ' ρ' S' → EndOf X.K D f σ' H' μ' := fun σ2 H2 μ2 g2 s2 => q σ2 H2 μ2 (g1.trans g2) s2
  cases k with
  | true => exact iteT ⟨ρ, S1, μ1, f, ρ', S', s.grow g1 s1, e, q'⟩
  | false => exact iteF ⟨ρ, S1, μ1, f, ρ', S', s.grow g1 s1, e, q'⟩⟩
def mName (i : Nat) : MTg := fun d ρ S => some (ρ.set i (some d), S)
abbrev MTgs := List D → Ev → Store → Option (Ev × Store)
def tGs (K : PySem.W.Frag) (m : MTgs) : TGs := fun vs σ H Q => ∃ ds ρ S μ ρ' S', Sim K H μ σ ρ S ∧ RpA K H μ vs ds ∧ m ds ρ S = some (ρ', S') ∧ ∀ σ' H' μ', Grow H H' μ μ' → Sim K H' μ' σ' ρ' S' → Q σ' H'
structure MGs (X : Cx) (ts : List Expr) (m : MTgs) : Prop where
  pgs : PGs X ts (tGs X.K m)
theorem PGs.imp {ts : List Expr} {t t' : TGs} (h : PGs X ts t) (i : ∀ vs σ H Q, t' vs σ H Q → t vs σ H Q) : PGs X ts t' := ⟨fun pins s σ H vs us Q I r q => h.run pins s σ H vs us Q I r (i _ _ _ _ q)⟩
def mgNil : MTgs := fun ds ρ S => match ds with
  | [] => some (ρ, S)
  | _ => none
def mgCons (g : MTg) (r : MTgs) : MTgs := fun ds ρ S => match ds with
  | d :: ds => (g d ρ S).bind fun p => r ds p.1 p.2
  | [] => none
def mgTup (r : MTgs) (n : Nat) : MTg := fun d ρ S => match d with
  | .tup ds => if ds.length = n then r ds ρ S else none
  | _ => none
def mgSub (mo mi : MExp) : MTg := fun d ρ S => (mo ρ S).bind fun p => (mi ρ p.2).bind fun q => match p.1, q.1 with
  | .lr n, .int k => (mat q.2 n).bind fun ds => (ixN ds.length k).bind fun j => some (ρ, q.2.set n (.lst (ds.set j d)))
  | _, _ => none
theorem mg_name {i : Nat} {x : Str} (hN : X.N.Nodup) (hi : X.N[i]? = some x) (hx : Loc X.env.scope x) (hf : X.fn x = true ∨ X.env.scope.names.lookup x = some .local := by first | exact .inl rfl | exact .inr rfl | assumption) : MG X (.Name x pos) (mName i) :=
  ⟨PG.imp (pg_name hN hi hx hf) fun v σ H Q ⟨d, ρ, S, μ, ρ', S', s, r, e, q⟩ => by cases e; exact q _ H μ .refl (s.set i r)⟩
theorem mgs_nil : MGs X [] mgNil := ⟨PGs.imp pgs_nil fun vs σ H Q ⟨ds, ρ, S, μ, ρ', S', s, r, e, q⟩ => by
  cases ds with
  | nil => cases e; cases r; exact ⟨rfl, q σ H μ .refl s⟩
  | cons _ _ => cases e⟩
theorem mgs_cons {e : Expr} {es : List Expr} {g : MTg} {r : MTgs} (h1 : MG X e g) (h2 : MGs X es r) (hs : (assignEach (e :: es) X.env).map (·.2) = assign e X.env :: (assignEach es X.env).map (·.2) := by rfl) : MGs X (e :: es) (mgCons g r) :=
  ⟨PGs.imp (pgs_cons h1.pg h2.pgs hs) fun vs σ H Q ⟨ds, ρ, S, μ, ρ', S', s, rr, e, q⟩ => by
    cases ds with
    | nil => cases e
    | cons d ds =>
      cases rr with
      | cons r1 r2 =>
      obtain ⟨⟨ρ1, S1⟩, e1, e⟩ := Option.bind_eq_some_iff.mp (show ((g d ρ S).bind fun p => r ds p.1 p.2) = some (ρ', S') from e)
      exact ⟨_, _, rfl, d, ρ, S, μ, ρ1, S1, s, r1, e1, fun σ1 H1 μ1 g1 s1 => ⟨ds, ρ1, S1, μ1, ρ', S', s1, r2.grow g1, e, fun σ2 H2 μ2 g2 s2 => q σ2 H2 μ2 (g1.trans g2) s2⟩⟩⟩
theorem mg_tup {es : List Expr} {k : Nat} {r : MTgs} {n : Nat} (hc : X.calm = true) (h : MGs X es r) (hn : (assignEach es X.env).length = n := by rfl) (hst : (assignEach es X.env).findIdx? (·.1) = none := by rfl) : MG X (.Tuple es k pos) (mgTup r n) :=
  ⟨PG.imp (pg_tup hc h.pgs hn hst) fun v σ H Q ⟨d, ρ, S, μ, ρ', S', s, rr, e, q⟩ => by
    cases d with
    | tup ds =>
      cases rr with
      | tup h1 h2 =>
      have e : (if ds.length = n then r ds ρ S else none) = some (ρ', S') := e
      split at e
      · rename_i hl
        exact ⟨_, _, rfl, sq _ _ h1, by rw [h2.length]; exact hl, ds, ρ, S, μ, ρ', S', s, h2, e, q⟩
      · cases e
    | _ => cases e⟩
theorem RpA.ixN {K : PySem.W.Frag} {H : Hp} {μ : Mu} {vs : List V} {ds : List D} {i : Int} (r : RpA K H μ vs ds) : L2.ixN vs.length i = L2.ixN ds.length i := by rw [r.length]
theorem mg_sub {o i : Expr} {mo mi : MExp} (ho : ME X o mo) (hi : ME X i mi)
    (ha : ∀ v, assign (.Subscript o i pos) X.env v = (do
      let ov ← holding [v] (eval o X.env)
      let iv ← holding [v, ov] (eval i X.env)
      standAt pos
      holding [v, ov, iv] (setItem ov iv v)
      release [v, ov, iv] []) := by intro _; rfl) : MG X (.Subscript o i pos) (mgSub mo mi) :=
  ⟨PG.imp (pg_sub ho.pe hi.pe set_list ha) fun v σ H Q ⟨d, ρ, S, μ, ρ', S', s, rr, e, q⟩ => by
    obtain ⟨⟨d1, S1⟩, e1, e⟩ := Option.bind_eq_some_iff.mp e
    obtain ⟨⟨d2, S2⟩, e2, e⟩ := Option.bind_eq_some_iff.mp e
    refine ⟨ρ, S, μ, d1, S1, s, e1, fun v1 H1 μ1 g1 s1 r1 => ⟨ρ, S1, μ1, d2, S2, s.grow g1 s1, e2, fun v2 H2 μ2 g2 s2 r2 => ?_⟩⟩
    cases d1 with
    | lr n =>
      cases d2 with
      | int k =>
        obtain ⟨ds, e3, e⟩ := Option.bind_eq_some_iff.mp (show ((mat S2 n).bind fun ds => (L2.ixN ds.length k).bind fun j => some (ρ, S2.set n (.lst (ds.set j d)))) = some (ρ', S') from e)
        obtain ⟨j, e4, e⟩ := Option.bind_eq_some_iff.mp e
        cases e
        cases r2
        obtain ⟨a, vs, rfl, h1, h2, h3⟩ := s2.mat e3 (r1.grow g2)
        refine ⟨a, vs, k, j, rfl, rfl, h2, by rw [h3.ixN]; exact e4, ?_⟩
        have g12 := g1.trans g2
        refine q σ _ μ2 (g12.trans (.wrS s2 (mat_eq e3) rfl h1)) ?_
        exact (s.grow g12 s2).grow (.wrS s2 (mat_eq e3) rfl h1) (s2.wr (mat_eq e3) h1 (h3.set (rr.grow g12) j))
      | _ => cases e
    | _ => cases e⟩
theorem tS_asg {g : MTg} {D_ : Ends} {σ : L2.St} {H : Hp} (h : tS X.K (mAsg me g) D_ σ H) : tAsg (tE X.K me) (tG X.K g) D_ σ H := by
  obtain ⟨ρ, S, μ, f, ρ', S', s, e, q⟩ := h
  obtain ⟨⟨d, S1⟩, e1, e⟩ := Option.bind_eq_some_iff.mp e
  obtain ⟨⟨ρ2, S2⟩, e2, e⟩ := Option.bind_eq_some_iff.mp e
  cases e
  exact ⟨ρ, S, μ, d, S1, s, e1, fun v H1 μ1 g1 s1 r1 => ⟨d, ρ, S1, μ1, _, _, s.grow g1 s1, r1, e2, fun σ2 H2 μ2 g2 s2 => q σ2 H2 μ2 (g1.trans g2) s2⟩⟩
theorem ms_asg {tg : Expr} {g : MTg} (he : ME X e me) (hg : MG X tg g) (hs : swapsWithSole [tg] e pos.line X.env = pure false := by rfl) (hw : swappedStores [tg] e X.env = pure none := by rfl)
    (h1 : (assignEach [tg] X.env).map (·.2) = [assign tg X.env] := by rfl) : MS_ X (.Assign [tg] e pos) (mAsg me g) := ⟨PS.imp (ps_asg he.pe hg.pg hs hw h1) fun _ _ _ h => tS_asg h⟩
theorem ms_set {i : Nat} {x : Str} {pos' : Pos} (hN : X.N.Nodup) (hi : X.N[i]? = some x) (hx : Loc X.env.scope x) (he : ME X e me) (hs : swapsWith e (some (.Name x pos')) pos.line X.env = pure false := by rfl)
    (hf : X.fn x = true ∨ X.env.scope.names.lookup x = some .local := by first | exact .inl rfl | exact .inr rfl | assumption) : MS_ X (.Assign [.Name x pos'] e pos) (mAsg me (mName i)) :=
  ⟨PS.imp (ps_set hN hi hx he.pe hs hf) fun D_ σ H h => by
    obtain ⟨ρ, S, μ, f, ρ', S', s, e, q⟩ := h
    obtain ⟨⟨d, S1⟩, e1, e⟩ := Option.bind_eq_some_iff.mp e
    cases e
    exact ⟨ρ, S, μ, d, _, s, e1, fun v H1 μ1 g1 s1 r1 => q _ H1 μ1 g1 ((s.grow g1 s1).set i r1)⟩⟩
def mPar (i j : Nat) (m : MArg) : MStm := fun ρ S => (m ρ S).bind fun p => match p.1 with
  | [a, b] => some (.nx, (ρ.set i (some a)).set j (some b), p.2)
  | _ => none
theorem ms_par {i j : Nat} {x y : Str} {a b : Expr} {m : MArg} {px py pt : Pos} {kt k2 pt2} (hc : X.calm = true) (hN : X.N.Nodup) (hi : X.N[i]? = some x) (hj : X.N[j]? = some y) (hij : i ≠ j)
    (hx : X.env.scope.names.lookup x = some .local) (hy : X.env.scope.names.lookup y = some .local) (ha : MA X [a, b] m)
    (hw : swappedStores [.Tuple [.Name x px, .Name y py] kt pt] (.Tuple [a, b] k2 pt2) X.env = pure (some [x, y]) := by rfl)
    (hs : swapsWithSole [.Tuple [.Name x px, .Name y py] kt pt] (.Tuple [a, b] k2 pt2) pos.line X.env = pure false := by rfl) :
    MS_ X (.Assign [.Tuple [.Name x px, .Name y py] kt pt] (.Tuple [a, b] k2 pt2) pos) (mPar i j m) :=
  ⟨PS.imp (ps_par hc hN hi hj hij hx hy ha.pa hw hs) fun D_ σ H ⟨ρ, S, μ, f, ρ', S', s, e, q⟩ => by
    obtain ⟨⟨ds, S1⟩, e1, e⟩ := Option.bind_eq_some_iff.mp e
    refine ⟨ρ, S, μ, ds, S1, s, e1, fun vs H1 μ1 g1 s1 r1 => ?_⟩
    match ds, r1, e with
    | [a, b], .cons ra (.cons rb .nil), e =>
      cases e
      exact ⟨_, _, rfl, q _ H1 μ1 g1 (((s.grow g1 s1).set i ra).set j rb)⟩
    | [], _, e => cases e
    | [_], _, e => cases e
    | _ :: _ :: _ :: _, _, e => cases e⟩
def mAug (i : Nat) (f : DOp2) (m : MExp) : MStm := fun ρ S => match ρ[i]? with
  | some (some d) => (m ρ S).bind fun p => (f d p.1 p.2).bind fun q => some (.nx, ρ.set i (some q.1), q.2)
  | _ => none
end
end MS
set_option Elab.async false
set_option linter.all false
set_option maxRecDepth 100000
set_option maxHeartbeats 4000000
namespace MS
open PySem PySem.Spec PyProof.Rows L2
mutual
def D.same : D → D → Bool
  | .non, .non => true
  | .bl a, .bl b => a == b
  | .int a, .int b => decide (a = b)
  | .str a, .str b => decide (a = b)
  | .tup a, .tup b => D.sameA a b
  | .lr a, .lr b => decide (a = b)
  | .lst a, .lst b => D.sameA a b
  | .fl a, .fl b => D.sameA a b
  | .dk k a, .dk l b => decide (k = l) && D.sameA a b
  | .dt k a, .dt l b => decide (k = l) && D.sameA a b
  | .ins c k a, .ins d l b => decide (c = d) && decide (k = l) && D.sameA a b
  | .fn a, .fn b => decide (a = b)
  | _, _ => false
def D.sameA : List D → List D → Bool
  | [], [] => true
  | a :: as, b :: bs => D.same a b && D.sameA as bs
  | _, _ => false
end
mutual
theorem D.same_eq : ∀ a b : D, D.same a b = true → a = b
  | .non, b, h => by cases b <;> first | rfl | cases h
  | .bl a, b, h => by
    cases b with
    | bl b => rw [show a = b from eq_of_beq h]
    | _ => cases h
  | .int a, b, h => by
    cases b with
    | int b => rw [show a = b from of_decide_eq_true h]
    | _ => cases h
  | .str a, b, h => by
    cases b with
    | str b => rw [show a = b from of_decide_eq_true h]
    | _ => cases h
  | .lr a, b, h => by
    cases b with
    | lr b => rw [show a = b from of_decide_eq_true h]
    | _ => cases h
  | .tup a, b, h => by
    cases b with
    | tup b => rw [show a = b from D.sameA_eq a b h]
    | _ => cases h
  | .lst a, b, h => by
    cases b with
    | lst b => rw [show a = b from D.sameA_eq a b h]
    | _ => cases h
  | .fl a, b, h => by
    cases b with
    | fl b => rw [show a = b from D.sameA_eq a b h]
    | _ => cases h
  | .dk k a, b, h => by
    cases b with
    | dk l b =>
      have h : (decide (k = l) && D.sameA a b) = true := h
      rw [Bool.and_eq_true] at h
      rw [show k = l from of_decide_eq_true h.1, show a = b from D.sameA_eq a b h.2]
    | _ => cases h
  | .dt k a, b, h => by
    cases b with
    | dt l b =>
      have h : (decide (k = l) && D.sameA a b) = true := h
      rw [Bool.and_eq_true] at h
      rw [show k = l from of_decide_eq_true h.1, show a = b from D.sameA_eq a b h.2]
    | _ => cases h
  | .ins c k a, b, h => by
    cases b with
    | ins d l b =>
      have h : (decide (c = d) && decide (k = l) && D.sameA a b) = true := h
      rw [Bool.and_eq_true, Bool.and_eq_true] at h
      rw [show c = d from of_decide_eq_true h.1.1, show k = l from of_decide_eq_true h.1.2, show a = b from D.sameA_eq a b h.2]
    | _ => cases h
  | .fn a, b, h => by
    cases b with
    | fn b => rw [show a = b from of_decide_eq_true h]
    | _ => cases h
theorem D.sameA_eq : ∀ a b : List D, D.sameA a b = true → a = b
  | [], b, h => by cases b <;> first | rfl | cases h
  | a :: as, b, h => by
    cases b with
    | nil => cases h
    | cons b bs =>
      have h : (D.same a b && D.sameA as bs) = true := h
      rw [Bool.and_eq_true] at h
      rw [D.same_eq a b h.1, D.sameA_eq as bs h.2]
end
mutual
theorem D.same_refl : ∀ a : D, D.same a a = true
  | .non => rfl
  | .bl a => beq_self_eq_true a
  | .int a => decide_eq_true rfl
  | .str a => decide_eq_true rfl
  | .lr a => decide_eq_true rfl
  | .tup a => D.sameA_refl a
  | .lst a => D.sameA_refl a
  | .fl a => D.sameA_refl a
  | .dk k a => by
    show (decide (k = k) && D.sameA a a) = true
    rw [decide_eq_true rfl, D.sameA_refl a]; rfl
  | .dt k a => by
    show (decide (k = k) && D.sameA a a) = true
    rw [decide_eq_true rfl, D.sameA_refl a]; rfl
  | .ins c k a => by
    show (decide (c = c) && decide (k = k) && D.sameA a a) = true
    rw [decide_eq_true rfl, decide_eq_true rfl, D.sameA_refl a]; rfl
  | .fn a => decide_eq_true rfl
theorem D.sameA_refl : ∀ a : List D, D.sameA a a = true
  | [] => rfl
  | a :: as => by
    show (D.same a a && D.sameA as as) = true
    rw [D.same_refl a, D.sameA_refl as]
    rfl
end
def still (n : Nat) (ds : List D) : Store → Bool := fun S => match lat S n with
  | some es => D.sameA es ds
  | none => false
theorem still_eq {n : Nat} {ds : List D} {S : Store} (h : still n ds S = true) : lat S n = some ds := by
  unfold still at h
  split at h
  · rename_i es e
    rw [e, D.sameA_eq es ds h]
  · cases h
def always : Store → Bool := fun _ => true
structure IsIt (K : PySem.W.Frag) (J : It) (H0 : Hp) (μ0 : Mu) (ds : List D) (ok : Store → Bool) : Prop where
  go : ∀ i H μ S, Grow H0 H μ0 μ → StR K H μ S → ok S = true → i < ds.length → J.go i H
  stop : ∀ H μ S, Grow H0 H μ0 μ → StR K H μ S → ok S = true → J.stop ds.length H
  yld : ∀ i H μ S x H', Grow H0 H μ0 μ → StR K H μ S → ok S = true → J.yld i H x H' → ∀ d, ds[i]? = some d → Grow H H' μ μ ∧ StR K H' μ S ∧ Rp K H' μ x d
abbrev MItr := Ev → Store → Option ((List D × (Store → Bool)) × Store)
def tI (K : PySem.W.Frag) (m : MItr) : TI := fun σ H R => ∃ ρ S μ p S', Sim K H μ σ ρ S ∧ m ρ S = some (p, S') ∧ ∀ J H' μ', Grow H H' μ μ' → StR K H' μ' S' → IsIt K J H' μ' p.1 p.2 → R J H'
structure MI (X : Cx) (tg iter : Expr) (m : MItr) : Prop where
  pi : PI X tg iter (tI X.K m)
theorem PI.imp {X : Cx} {tg iter : Expr} {t t' : TI} (h : PI X tg iter t) (i : ∀ σ H R, t' σ H R → t σ H R) : PI X tg iter t' := ⟨fun pins s σ H R I q => h.run pins s σ H R I (i _ _ _ q)⟩
def mItems (m : MExp) : MItr := fun ρ S => (m ρ S).bind fun p => match p.1 with
  | .tup ds => some ((ds, always), p.2)
  | .lst ds => some ((ds, always), p.2)
  | .lr n => (lat p.2 n).bind fun ds => some ((ds, still n ds), p.2)
  | _ => none
section
variable {X : Cx} {tg e : Expr} {m : MExp}
theorem isIt_list {K : PySem.W.Frag} {H0 : Hp} {μ0 : Mu} {n : Nat} {a : Addr} {ds : List D} (r : Rp K H0 μ0 (.ref a) (.lr n)) : IsIt K (Itl K a) H0 μ0 ds (still n ds) where
  go := fun i H μ S g s h hi => by
    obtain ⟨a', vs, e1, h1, h2⟩ := s.lat (still_eq h) (r.grow g)
    cases e1
    have hi' : i < vs.length := by rw [h2.length]; exact hi
    exact ⟨vs, vs[i], h1, List.getElem?_eq_getElem hi'⟩
  stop := fun H μ S g s h => by
    obtain ⟨a', vs, e1, h1, h2⟩ := s.lat (still_eq h) (r.grow g)
    cases e1
    exact ⟨vs, h1, by rw [h2.length]; exact Nat.le_refl _⟩
  yld := fun i H μ S x H' g s h y d hd => by
    obtain ⟨rfl, y⟩ := y
    obtain ⟨a', vs, e1, h1, h2⟩ := s.lat (still_eq h) (r.grow g)
    cases e1
    obtain ⟨w, h3, h4⟩ := h2.get hd
    rw [y vs h1] at h3
    cases h3
    exact ⟨.refl, s, h4⟩
theorem isIt_tup {K : PySem.W.Frag} {H0 : Hp} {μ0 : Mu} {a : Addr} {vs : List V} {ds : List D} (h1 : SqT K H0 a vs) (h2 : RpA K H0 μ0 vs ds) : IsIt K (Itt K a) H0 μ0 ds always where
  go := fun i H μ S g s h hi => by
    have hi' : i < vs.length := by rw [h2.length]; exact hi
    exact ⟨vs, vs[i], g.sqT h1, List.getElem?_eq_getElem hi'⟩
  stop := fun H μ S g s h => ⟨vs, g.sqT h1, by rw [h2.length]; exact Nat.le_refl _⟩
  yld := fun i H μ S x H' g s h y d hd => by
    obtain ⟨rfl, y⟩ := y
    obtain ⟨w, h3, h4⟩ := (h2.grow g).get hd
    rw [y vs (g.sqT h1)] at h3
    cases h3
    exact ⟨.refl, s, h4⟩
theorem isIt_lsv {K : PySem.W.Frag} {H0 : Hp} {μ0 : Mu} {a : Addr} {vs : List V} {ds : List D} (h1 : LsV H0 μ0 a vs) (h2 : RpA K H0 μ0 vs ds) : IsIt K (Itl K a) H0 μ0 ds always where
  go := fun i H μ S g s h hi => by
    have hi' : i < vs.length := by rw [h2.length]; exact hi
    exact ⟨vs, vs[i], (h1.grow g).sqL, List.getElem?_eq_getElem hi'⟩
  stop := fun H μ S g s h => ⟨vs, (h1.grow g).sqL, by rw [h2.length]; exact Nat.le_refl _⟩
  yld := fun i H μ S x H' g s h y d hd => by
    obtain ⟨rfl, y⟩ := y
    obtain ⟨w, h3, h4⟩ := (h2.grow g).get hd
    rw [y vs (h1.grow g).sqL] at h3
    cases h3
    exact ⟨.refl, s, h4⟩
theorem mi_items (h : ME X e m) : MI X tg e (mItems m) := by
  refine ⟨⟨fun pins s σ H R I ⟨ρ, S, μ, p, S', st, e1, q⟩ => ?_⟩⟩
  obtain ⟨⟨d, S1⟩, e2, e1⟩ := Option.bind_eq_some_iff.mp e1
  cases d with
  | tup ds =>
    cases e1
    refine (pi_tup h.pe).run pins s σ H R I ⟨ρ, S, μ, _, _, st, e2, fun v H1 μ1 g1 s1 r1 => ?_⟩
    cases r1 with
    | tup h1 h2 => exact ⟨_, rfl, ⟨_, sq _ _ h1⟩, q _ H1 μ1 g1 s1 (isIt_tup (sq _ _ h1) h2)⟩
  | lst ds =>
    cases e1
    refine (pi_list h.pe).run pins s σ H R I ⟨ρ, S, μ, _, _, st, e2, fun v H1 μ1 g1 s1 r1 => ?_⟩
    cases r1 with
    | lst h1 h2 => exact ⟨_, rfl, ⟨_, h1.sqL⟩, q _ H1 μ1 g1 s1 (isIt_lsv h1 h2)⟩
  | lr n =>
    obtain ⟨ds, e3, e1⟩ := Option.bind_eq_some_iff.mp (show ((lat S1 n).bind fun ds => some ((ds, still n ds), S1)) = some (p, S') from e1)
    cases e1
    refine (pi_list h.pe).run pins s σ H R I ⟨ρ, S, μ, _, _, st, e2, fun v H1 μ1 g1 s1 r1 => ?_⟩
    obtain ⟨a, vs, rfl, h1, h2⟩ := s1.lat e3 r1
    exact ⟨a, rfl, ⟨vs, h1⟩, q _ H1 μ1 g1 s1 (isIt_list r1)⟩
  | _ => cases e1
def rangeD (lo : Int) (n : Nat) : List D := (List.range n).map fun (i : Nat) => D.int (lo + (i : Int))
theorem rangeD_length {lo : Int} {n : Nat} : (rangeD lo n).length = n := by unfold rangeD; rw [List.length_map, List.length_range]
theorem isIt_range {K : PySem.W.Frag} {H0 : Hp} {μ0 : Mu} {lo : Int} {n : Nat} : IsIt K (Itr lo n) H0 μ0 (rangeD lo n) always where
  go := fun i H μ S g s h hi => by rw [rangeD_length] at hi; exact hi
  stop := fun H μ S g s h => by rw [rangeD_length]; exact Nat.le_refl _
  yld := fun i H μ S x H' g s h y d hd => by
    obtain ⟨rfl, rfl⟩ := y
    unfold rangeD at hd
    rw [List.getElem?_map] at hd
    obtain ⟨j, h1, h2⟩ := Option.map_eq_some_iff.mp hd
    subst h2
    obtain ⟨h3, h4⟩ := List.getElem?_eq_some_iff.mp h1
    rw [List.getElem_range] at h4
    subst h4
    exact ⟨.refl, s, .int _⟩
def r62 (i : Int) : Bool := decide (-(2 ^ 62) ≤ i) && decide (i < 2 ^ 62)
theorem r62_iff {i : Int} (h : r62 i = true) : -(2 ^ 62) ≤ i ∧ i < 2 ^ 62 := by
  unfold r62 at h
  rw [Bool.and_eq_true, decide_eq_true_eq, decide_eq_true_eq] at h
  exact h
def mRange1 (m : MArg) : MItr := fun ρ S => (m ρ S).bind fun p => match p.1 with
  | [.int j] => if r62 j then some ((rangeD 0 j.toNat, always), p.2) else none
  | _ => none
def mRange2 (m : MArg) : MItr := fun ρ S => (m ρ S).bind fun p => match p.1 with
  | [.int i, .int j] => if r62 i && r62 j then some ((rangeD i (j - i).toNat, always), p.2) else none
  | _ => none
theorem mi_range1 {a : Expr} {ma : MArg} {p pos : Pos} (hg : Gl X "range") (hm : X.mg "range" = none) (ha : MA X [a] ma) (hs : starEach [a] X.env = [(false, eval a X.env)] := by rfl) : MI X tg (.Call (.Name "range" p) [a] [] pos) (mRange1 ma) :=
  ⟨PI.imp (pi_range1 hg hm ha.pa hs) fun σ H R ⟨ρ, S, μ, p, S', st, e1, q⟩ => by
    obtain ⟨⟨ds, S1⟩, e2, e1⟩ := Option.bind_eq_some_iff.mp e1
    refine ⟨ρ, S, μ, ds, S1, st, e2, fun vs H1 μ1 g1 s1 r1 => ?_⟩
    dsimp only at e1
    split at e1
    · split at e1
      · rename_i h
        cases e1
        obtain ⟨h1, h2⟩ := r62_iff h
        match vs, r1 with
        | _, .cons (.int j) .nil => exact ⟨_, rfl, h1, h2, q _ H1 μ1 g1 s1 isIt_range⟩
      · cases e1
    · cases e1⟩
theorem mi_range2 {a b : Expr} {ma : MArg} {p pos : Pos} (hg : Gl X "range") (hm : X.mg "range" = none) (ha : MA X [a, b] ma) (hs : starEach [a, b] X.env = [(false, eval a X.env), (false, eval b X.env)] := by rfl) (hs2 : starEach [b] X.env = [(false, eval b X.env)] := by rfl) :
    MI X tg (.Call (.Name "range" p) [a, b] [] pos) (mRange2 ma) :=
  ⟨PI.imp (pi_range2 hg hm ha.pa hs hs2) fun σ H R ⟨ρ, S, μ, p, S', st, e1, q⟩ => by
    obtain ⟨⟨ds, S1⟩, e2, e1⟩ := Option.bind_eq_some_iff.mp e1
    refine ⟨ρ, S, μ, ds, S1, st, e2, fun vs H1 μ1 g1 s1 r1 => ?_⟩
    dsimp only at e1
    split at e1
    · split at e1
      · rename_i h
        cases e1
        rw [Bool.and_eq_true] at h
        obtain ⟨h1, h2⟩ := r62_iff h.1
        obtain ⟨h3, h4⟩ := r62_iff h.2
        match vs, r1 with
        | _, .cons (.int i) (.cons (.int j) .nil) => exact ⟨_, _, rfl, ⟨h1, h2, h3, h4⟩, q _ H1 μ1 g1 s1 isIt_range⟩
      · cases e1
    · cases e1⟩
end
def forL (ok : Store → Bool) (g : MTg) (b : MStm) : List D → MStm
  | [], ρ, S => if ok S then some (.nx, ρ, S) else none
  | x :: r, ρ, S => if ok S then (g x ρ S).bind fun p => (b p.1 p.2).bind fun q => match q.1 with
    | .nx => forL ok g b r q.2.1 q.2.2
    | .ct => forL ok g b r q.2.1 q.2.2
    | .bk => some (.nx, q.2.1, q.2.2)
    | .rt d => some (.rt d, q.2.1, q.2.2) else none
def mFor (i : MItr) (g : MTg) (b : MStm) : MStm := fun ρ S => (i ρ S).bind fun p => forL p.1.2 g b p.1.1 ρ p.2
def whileN (t : MTst) (b : MStm) : Nat → MStm
  | 0, _, _ => none
  | n + 1, ρ, S => (t ρ S).bind fun p => if p.1 then (b ρ p.2).bind fun q => match q.1 with
    | .nx => whileN t b n q.2.1 q.2.2
    | .ct => whileN t b n q.2.1 q.2.2
    | .bk => some (.nx, q.2.1, q.2.2)
    | .rt d => some (.rt d, q.2.1, q.2.2) else some (.nx, ρ, p.2)
section
variable {X : Cx} {tg iter c : Expr} {body : List Stmt} {i : MItr} {g : MTg} {b : MStm} {t : MTst} {pos : Pos}
theorem tS_for {K : PySem.W.Frag} {D_ : Ends} {σ : L2.St} {H : Hp} (h : tS K (mFor i g b) D_ σ H) : tFor (tI K i) (tG K g) (tS K b) D_ σ H := by
  obtain ⟨ρ, S, μ, f, ρ', S', st, e, q⟩ := h
  obtain ⟨⟨⟨ds, ok⟩, S1⟩, e1, e⟩ := Option.bind_eq_some_iff.mp e
  refine ⟨ρ, S, μ, (ds, ok), S1, st, e1, fun J H0 μ0 g0 s0 hJ => ?_⟩
  refine ⟨fun i m σ H => m = ds.length - i ∧ i ≤ ds.length ∧ ∃ ρ S μ, Sim K H μ σ ρ S ∧ Grow H0 H μ0 μ ∧ forL ok g b (ds.drop i) ρ S = some (f, ρ', S'), ⟨ds.length, by omega, by omega, ρ, S1, μ0, st.grow g0 s0, .refl, e⟩, ?_⟩
  rintro i m σ1 H1 ⟨rfl, hi, ρ1, S2, μ1, st1, g1, e2⟩
  by_cases hlt : i < ds.length
  · rw [List.drop_eq_getElem_cons hlt] at e2
    unfold forL at e2
    split at e2
    · rename_i hok
      obtain ⟨⟨ρ3, S3⟩, e3, e2⟩ := Option.bind_eq_some_iff.mp e2
      obtain ⟨⟨f4, ρ4, S4⟩, e4, e2⟩ := Option.bind_eq_some_iff.mp e2
      refine .inr ⟨hJ.go i H1 μ1 S2 g1 st1.st hok hlt, fun σ' H' => ∃ ρ S μ, Sim K H' μ σ' ρ S ∧ Grow H0 H' μ0 μ ∧ forL ok g b (ds.drop (i + 1)) ρ S = some (f, ρ', S'), fun σ' H' hN => ?_, fun x H' y => ?_⟩
      · exact ⟨ds.length - (i + 1), by omega, rfl, hlt, hN⟩
      · obtain ⟨g2, s2, r2⟩ := hJ.yld i H1 μ1 S2 x H' g1 st1.st hok y ds[i] (List.getElem?_eq_getElem hlt)
        refine ⟨ds[i], ρ1, S2, μ1, ρ3, S3, st1.grow g2 s2, r2, e3, fun σ3 H3 μ3 g3 st3 => ?_⟩
        refine ⟨ρ3, S3, μ3, f4, ρ4, S4, st3, e4, fun σ4 H4 μ4 g4 st4 => ?_⟩
        have gg : Grow H0 H4 μ0 μ4 := ((g1.trans g2).trans g3).trans g4
        cases f4 with
        | nx => exact ⟨ρ4, S4, μ4, st4, gg, e2⟩
        | ct => exact ⟨ρ4, S4, μ4, st4, gg, e2⟩
        | bk => cases e2; exact q σ4 H4 μ4 (g0.trans gg) st4
        | rt d => cases e2; exact q σ4 H4 μ4 (g0.trans gg) st4
    · cases e2
  · have ei : i = ds.length := by omega
    subst ei
    rw [List.drop_length] at e2
    unfold forL at e2
    split at e2
    · rename_i hok
      cases e2
      exact .inl ⟨hJ.stop H1 μ1 _ g1 st1.st hok, q σ1 H1 μ1 (g0.trans g1) st1⟩
    · cases e2
theorem ms_for (hp : PassesOwn (model X.prog X.w) X.A X.env X.xe) (hc : X.calm = true) (hi : MI X tg iter i) (hg : MG X tg g) (hb : MSs X body b) (hs : ∀ x, foldedSetIterable iter X.env x = pure x := by intro _; rfl) : MS_ X (.For tg iter body [] pos) (mFor i g b) :=
  ⟨PS.imp (ps_for hp hc hi.pi hg.pg hb.pss hs) fun _ _ _ h => tS_for h⟩
end
def tGl (K : PySem.W.Frag) (is : List Nat) (m : MTg) : TG := fun v σ H Q => ∃ d ρ S μ ρ' S', Sim K H μ σ ρ S ∧ Rp K H μ v d ∧ m d ρ S = some (ρ', S') ∧ ∀ σ' H' μ', Grow H H' μ μ' → Sim K H' μ' σ' ρ' S' → σ'.length = σ.length → (∀ j, j ∉ is → σ'[j]? = σ[j]?) → Q σ' H'
def tGsl (K : PySem.W.Frag) (is : List Nat) (m : MTgs) : TGs := fun vs σ H Q => ∃ ds ρ S μ ρ' S', Sim K H μ σ ρ S ∧ RpA K H μ vs ds ∧ m ds ρ S = some (ρ', S') ∧ ∀ σ' H' μ', Grow H H' μ μ' → Sim K H' μ' σ' ρ' S' → σ'.length = σ.length → (∀ j, j ∉ is → σ'[j]? = σ[j]?) → Q σ' H'
structure MGl (X : Cx) (is : List Nat) (tg : Expr) (m : MTg) : Prop where
  pg : PG X tg (tGl X.K is m)
structure MGsl (X : Cx) (is : List Nat) (ts : List Expr) (m : MTgs) : Prop where
  pgs : PGs X ts (tGsl X.K is m)
section
variable {X : Cx} {pos : Pos}
theorem mgl_name {i : Nat} {x : Str} (hN : X.N.Nodup) (hi : X.N[i]? = some x) (hx : Loc X.env.scope x) (hf : X.fn x = true ∨ X.env.scope.names.lookup x = some .local := by first | exact .inl rfl | exact .inr rfl | assumption) : MGl X [i] (.Name x pos) (mName i) :=
  ⟨PG.imp (pg_name hN hi hx hf) fun v σ H Q ⟨d, ρ, S, μ, ρ', S', s, r, e, q⟩ => by
    cases e
    exact q _ H μ .refl (s.set i r) (by rw [List.length_set]) fun j hj => by rw [List.getElem?_set_ne (fun z => hj (by simp [z]))]⟩
theorem mgsl_nil : MGsl X [] [] mgNil := ⟨PGs.imp pgs_nil fun vs σ H Q ⟨ds, ρ, S, μ, ρ', S', s, r, e, q⟩ => by
  cases ds with
  | nil => cases e; cases r; exact ⟨rfl, q σ H μ .refl s rfl fun _ _ => rfl⟩
  | cons _ _ => cases e⟩
theorem mgsl_cons {e : Expr} {es : List Expr} {g : MTg} {r : MTgs} {is js : List Nat} (h1 : MGl X is e g) (h2 : MGsl X js es r) (hs : (assignEach (e :: es) X.env).map (·.2) = assign e X.env :: (assignEach es X.env).map (·.2) := by rfl) : MGsl X (is ++ js) (e :: es) (mgCons g r) :=
  ⟨PGs.imp (pgs_cons h1.pg h2.pgs hs) fun vs σ H Q ⟨ds, ρ, S, μ, ρ', S', s, rr, e, q⟩ => by
    cases ds with
    | nil => cases e
    | cons d ds =>
      cases rr with
      | cons r1 r2 =>
      obtain ⟨⟨ρ1, S1⟩, e1, e⟩ := Option.bind_eq_some_iff.mp (show ((g d ρ S).bind fun p => r ds p.1 p.2) = some (ρ', S') from e)
      exact ⟨_, _, rfl, d, ρ, S, μ, ρ1, S1, s, r1, e1, fun σ1 H1 μ1 g1 s1 l1 k1 => ⟨ds, ρ1, S1, μ1, ρ', S', s1, r2.grow g1, e, fun σ2 H2 μ2 g2 s2 l2 k2 => q σ2 H2 μ2 (g1.trans g2) s2 (l2.trans l1) fun j hj =>
        (k2 j fun z => hj (List.mem_append_right _ z)).trans (k1 j fun z => hj (List.mem_append_left _ z))⟩⟩⟩
theorem mgl_tup {es : List Expr} {k : Nat} {r : MTgs} {n : Nat} {is : List Nat} (hc : X.calm = true) (h : MGsl X is es r) (hn : (assignEach es X.env).length = n := by rfl) (hst : (assignEach es X.env).findIdx? (·.1) = none := by rfl) : MGl X is (.Tuple es k pos) (mgTup r n) :=
  ⟨PG.imp (pg_tup hc h.pgs hn hst) fun v σ H Q ⟨d, ρ, S, μ, ρ', S', s, rr, e, q⟩ => by
    cases d with
    | tup ds =>
      cases rr with
      | tup h1 h2 =>
      have e : (if ds.length = n then r ds ρ S else none) = some (ρ', S') := e
      split at e
      · rename_i hl
        exact ⟨_, _, rfl, sq _ _ h1, by rw [h2.length]; exact hl, ds, ρ, S, μ, ρ', S', s, h2, e, q⟩
      · cases e
    | _ => cases e⟩
end
def wipeD (ρ : Ev) : List Nat → Ev
  | [] => ρ
  | v :: vs => (wipeD ρ vs).set v none
theorem wipeD_length (ρ : Ev) : ∀ vs, (wipeD ρ vs).length = ρ.length
  | [] => rfl
  | v :: vs => by unfold wipeD; rw [List.length_set, wipeD_length ρ vs]
theorem wipeD_some {ρ : Ev} {i : Nat} {d : D} : ∀ {vs : List Nat}, (wipeD ρ vs)[i]? = some (some d) → ρ[i]? = some (some d) ∧ i ∉ vs
  | [], h => ⟨h, by simp⟩
  | v :: vs, h => by
    unfold wipeD at h
    by_cases hi : v = i
    · subst hi
      by_cases hv : v < (wipeD ρ vs).length
      · rw [List.getElem?_set_self hv] at h; cases h
      · rw [List.getElem?_eq_none (by simpa using hv)] at h; cases h
    · rw [List.getElem?_set_ne hi] at h
      obtain ⟨h1, h2⟩ := wipeD_some h
      exact ⟨h1, by simp only [List.mem_cons, not_or]; exact ⟨fun z => hi z.symm, h2⟩⟩
theorem wipe_at {σ : L2.St} {i : Nat} : ∀ {vs : List Nat}, i ∉ vs → (wipe σ vs)[i]? = σ[i]?
  | [], _ => rfl
  | v :: vs, h => by
    simp only [List.mem_cons, not_or] at h
    unfold wipe
    rw [List.getElem?_set_ne (fun z => h.1 z.symm)]
    exact wipe_at h.2
theorem wipe_in {σ : L2.St} {i : Nat} : ∀ {vs : List Nat}, i ∈ vs → i < σ.length → (wipe σ vs)[i]? = some none
  | [], h, _ => by cases h
  | v :: vs, h, hl => by
    unfold wipe
    by_cases hi : v = i
    · subst hi
      rw [List.getElem?_set_self (by rw [wipe_length]; exact hl)]
    · rw [List.getElem?_set_ne hi]
      rcases List.mem_cons.mp h with z | z
      · exact absurd z.symm hi
      · exact wipe_in z hl
theorem wipe_same {σ σ' : L2.St} {vs : List Nat} (hl : σ'.length = σ.length) (h : ∀ j, j ∉ vs → σ'[j]? = σ[j]?) : wipe σ' vs = wipe σ vs := by
  refine List.ext_getElem? fun i => ?_
  by_cases hi : i ∈ vs
  · by_cases hz : i < σ.length
    · rw [wipe_in hi hz, wipe_in hi (by rw [hl]; exact hz)]
    · rw [List.getElem?_eq_none (by rw [wipe_length, hl]; omega), List.getElem?_eq_none (by rw [wipe_length]; omega)]
  · rw [wipe_at hi, wipe_at hi, h i hi]
theorem wipe_wipe {σ : L2.St} {vs : List Nat} : wipe (wipe σ vs) vs = wipe σ vs := wipe_same (wipe_length _ _) fun j hj => wipe_at hj
theorem Sim.wipe {K : PySem.W.Frag} {H : Hp} {μ : Mu} {σ : L2.St} {ρ : Ev} {S : Store} (s : Sim K H μ σ ρ S) (vs : List Nat) : Sim K H μ (L2.wipe σ vs) (wipeD ρ vs) S :=
  ⟨s.st, by rw [wipeD_length, wipe_length]; exact s.len, fun i d e => by
    obtain ⟨h1, h2⟩ := wipeD_some e
    obtain ⟨v, h3, h4⟩ := s.sl i d h1
    exact ⟨v, by rw [wipe_at h2]; exact h3, h4⟩⟩
def mYes : MTst := fun _ S => some (true, S)
structure MTs (X : Cx) (ifs : List Expr) (t : MTst) : Prop where
  pts : PTs X ifs (tT X.K t)
theorem mts_nil {X : Cx} : MTs X [] mYes := ⟨⟨fun pins s σ H Q I ⟨ρ, S, μ, b, S', st, e, q⟩ => pts_nil.run pins s σ H Q I (by cases e; exact q H μ .refl st.st)⟩⟩
theorem mts_one {X : Cx} {c : Expr} {t : MTst} (h : MT X c t) : MTs X [c] t := ⟨pts_one h.pt⟩
def lcL (ok : Store → Bool) (g : MTg) (t : MTst) (e : MExp) (ρw : Ev) (n : Nat) : List D → Store → Option Store
  | [], S => if ok S then some S else none
  | x :: r, S => if ok S then (g x ρw S).bind fun p => (t p.1 p.2).bind fun k => if k.1 then (e p.1 k.2).bind fun y => (mat y.2 n).bind fun acc =>
      if acc.length < szl then lcL ok g t e ρw n r (y.2.set n (.lst (acc ++ [y.1]))) else none
    else lcL ok g t e ρw n r k.2 else none
def mLc (i : MItr) (g : MTg) (t : MTst) (e : MExp) (vs : List Nat) : MExp := fun ρ S => (i ρ S).bind fun p =>
  (lcL p.1.2 g t e (wipeD ρ vs) p.2.length p.1.1 (p.2 ++ [.lst []])).bind fun S2 => some (.lr p.2.length, S2)
theorem tE_lc {K : PySem.W.Frag} {i : MItr} {g : MTg} {t : MTst} {e : MExp} {vs is : List Nat} {σ : L2.St} {H : Hp} {Q : VK} (hv : ∀ j ∈ is, j ∈ vs) (h : tE K (mLc i g t e vs) σ H Q) : tLc (tI K i) (tGl K is g) (tT K t) (tE K e) vs σ H Q := by
  obtain ⟨ρ, S, μ, d, S', st, e0, q⟩ := h
  obtain ⟨⟨⟨ds, ok⟩, S1⟩, e1, e0⟩ := Option.bind_eq_some_iff.mp e0
  obtain ⟨S9, e9, e0⟩ := Option.bind_eq_some_iff.mp e0
  cases e0
  refine ⟨ρ, S, μ, (ds, ok), S1, st, e1, fun J H1 μ1 g1 s1 hJ A hA => ?_⟩
  have st1 : Sim K H1 μ1 σ ρ S1 := st.grow g1 s1
  have gA : Grow H1 (upd H1 A (.lst [])) μ1 (μ1.add A) := .newL hA
  have sA : StR K (upd H1 A (.lst [])) (μ1.add A) (S1 ++ [.lst []]) := s1.newL hA .nil
  have hnA : (μ1.add A).h[S1.length]? = some A := by rw [← s1.len]; exact Mu.new
  refine ⟨fun i m H => m = ds.length - i ∧ i ≤ ds.length ∧ ∃ S μ, StR K H μ S ∧ Grow (upd H1 A (.lst [])) H (μ1.add A) μ ∧ lcL ok g t e (wipeD ρ vs) S1.length (ds.drop i) S = some S',
    ⟨ds.length, by omega, by omega, _, _, sA, .refl, e9⟩, ?_⟩
  rintro i m H2 ⟨rfl, hi, S2, μ2, s2, g2, e2⟩
  have g12 := gA.trans g2
  have w2 : Sim K H2 μ2 (wipe σ vs) (wipeD ρ vs) S2 := (st1.wipe vs).grow g12 s2
  have hn2 : μ2.h[S1.length]? = some A := by
    obtain ⟨t, et⟩ := g2.pre
    rw [← et, List.getElem?_append_left (List.getElem?_eq_some_iff.mp hnA).1]
    exact hnA
  by_cases hlt : i < ds.length
  · rw [List.drop_eq_getElem_cons hlt] at e2
    unfold lcL at e2
    split at e2
    · rename_i hok
      obtain ⟨⟨ρ3, S3⟩, e3, e2⟩ := Option.bind_eq_some_iff.mp e2
      obtain ⟨⟨k4, S4⟩, e4, e2⟩ := Option.bind_eq_some_iff.mp e2
      refine .inr ⟨hJ.go i H2 μ2 S2 g12 s2 hok hlt, fun H' => ∃ S μ, StR K H' μ S ∧ Grow (upd H1 A (.lst [])) H' (μ1.add A) μ ∧ lcL ok g t e (wipeD ρ vs) S1.length (ds.drop (i + 1)) S = some S',
        fun H' hN => ⟨ds.length - (i + 1), by omega, rfl, hlt, hN⟩, fun x H' y => ?_⟩
      obtain ⟨g3, s3, r3⟩ := hJ.yld i H2 μ2 S2 x H' g12 s2 hok y ds[i] (List.getElem?_eq_getElem hlt)
      refine ⟨ds[i], wipeD ρ vs, S2, μ2, ρ3, S3, w2.grow g3 s3, r3, e3, fun σ4 H4 μ4 g4 st4 l4 k4' => ?_⟩
      refine ⟨?_, ρ3, S3, μ4, k4, S4, st4, e4, fun H5 μ5 g5 s5 => ?_⟩
      · rw [wipe_same l4 fun j hj => k4' j fun z => hj (hv j z), wipe_wipe]
      · have gg := ((g2.trans g3).trans g4).trans g5
        cases k4 with
        | false => exact iteF ⟨S4, μ5, s5, gg, e2⟩
        | true =>
          obtain ⟨⟨y6, S6⟩, e6, e2⟩ := Option.bind_eq_some_iff.mp (show ((e ρ3 S4).bind fun y => (mat y.2 S1.length).bind fun acc =>
            if acc.length < szl then lcL ok g t e (wipeD ρ vs) S1.length (ds.drop (i + 1)) (y.2.set S1.length (.lst (acc ++ [y.1]))) else none) = some S' from e2)
          obtain ⟨acc, e7, e2⟩ := Option.bind_eq_some_iff.mp e2
          split at e2
          · rename_i hz
            refine iteT ⟨ρ3, S4, μ5, y6, S6, st4.grow g5 s5, e6, fun v H6 μ6 g6 s6 r6 => ?_⟩
            have gg6 := gg.trans g6
            have hn6 : μ6.h[S1.length]? = some A := by
              obtain ⟨t, et⟩ := gg6.pre
              rw [← et, List.getElem?_append_left (List.getElem?_eq_some_iff.mp hnA).1]
              exact hnA
            obtain ⟨a', vs', h1, h2, h3, h4⟩ := s6.mat e7 (Rp.lr hn6)
            cases h1
            refine ⟨vs', h3, by rw [h4.length]; exact szl_lt hz, _, μ6, s6.wr (mat_eq e7) hn6 (h4.append (.cons r6 .nil)), gg6.trans (.wrS s6 (mat_eq e7) rfl hn6), e2⟩
          · cases e2
    · cases e2
  · have ei : i = ds.length := by omega
    subst ei
    rw [List.drop_length] at e2
    unfold lcL at e2
    split at e2
    · rename_i hok
      cases e2
      exact .inl ⟨hJ.stop H2 μ2 _ g12 s2 hok, q _ H2 μ2 (g1.trans g12) s2 (.lr hn2)⟩
    · cases e2
section
variable {X : Cx} {elt tg iter : Expr} {ifs : List Expr} {scope : Scope} {own : List (Str × Nat)} {pos : Pos} {i : MItr} {g : MTg} {t : MTst} {e : MExp} {is : List Nat}
theorem me_lc (hc : X.calm = true) (hN : X.N.Nodup) (hi : MI X tg iter i) (ok : BlkOk X.N X.env.scope scope own)
    (hg : ∀ (s : Shared) (H : Hp) (C : Addr) (cl : List (Str × Addr)) (fp : List Addr), MGl (X.blk s H scope (compEnvC scope cl C X.env) fp) is tg g) (ht : ∀ (s : Shared) (H : Hp) (C : Addr) (cl : List (Str × Addr)) (fp : List Addr), MTs (X.blk s H scope (compEnvC scope cl C X.env) fp) ifs t)
    (he : ∀ (s : Shared) (H : Hp) (C : Addr) (cl : List (Str × Addr)) (fp : List Addr), ME (X.blk s H scope (compEnvC scope cl C X.env) fp) elt e) (hv : ∀ j ∈ is, j ∈ own.map (·.2)) (hs : ∀ x, foldedSetIterable iter X.env x = pure x := by intro _; rfl) :
    ME X (.ListComp elt [⟨tg, iter, ifs, 0⟩] scope pos) (mLc i g t e (own.map (·.2))) :=
  ⟨PE.imp (pe_lc hc hN hi.pi ok (fun s H C cl fp => (hg s H C cl fp).pg) (fun s H C cl fp => (ht s H C cl fp).pts) (fun s H C cl fp => (he s H C cl fp).pe) hs) fun _ _ _ h => tE_lc hv h⟩
theorem ms_setLc {j : Nat} {y : Str} {py spos : Pos} (hc : X.calm = true) (hN : X.N.Nodup) (hy : X.N[j]? = some y) (hyl : X.env.scope.names.lookup y = some .local)
    (hsw : swapsWith (.ListComp elt [⟨tg, iter, ifs, 0⟩] scope pos) (some (.Name y py)) spos.line X.env = pure true) (hi : MI X tg iter i) (ok : BlkOk X.N X.env.scope scope own)
    (hg : ∀ (s : Shared) (H : Hp) (C : Addr) (cl : List (Str × Addr)) (fp : List Addr), MGl (X.blk s H scope (compEnvC scope cl C X.env) fp) is tg g) (ht : ∀ (s : Shared) (H : Hp) (C : Addr) (cl : List (Str × Addr)) (fp : List Addr), MTs (X.blk s H scope (compEnvC scope cl C X.env) fp) ifs t)
    (he : ∀ (s : Shared) (H : Hp) (C : Addr) (cl : List (Str × Addr)) (fp : List Addr), ME (X.blk s H scope (compEnvC scope cl C X.env) fp) elt e) (hv : ∀ j ∈ is, j ∈ own.map (·.2)) (hs : ∀ x, foldedSetIterable iter X.env x = pure x := by intro _; rfl) :
    MS_ X (.Assign [.Name y py] (.ListComp elt [⟨tg, iter, ifs, 0⟩] scope pos) spos) (mAsg (mLc i g t e (own.map (·.2))) (mName j)) :=
  ⟨PS.imp (ps_setLc hc hN hy hyl hsw hi.pi ok (fun s H C cl fp => (hg s H C cl fp).pg) (fun s H C cl fp => (ht s H C cl fp).pts) (fun s H C cl fp => (he s H C cl fp).pe) hs) fun D_ σ H h => by
    obtain ⟨ρ, S, μ, f, ρ', S', s, e, q⟩ := h
    obtain ⟨⟨d, S1⟩, e1, e⟩ := Option.bind_eq_some_iff.mp e
    cases e
    exact tE_lc hv ⟨ρ, S, μ, d, _, s, e1, fun v H1 μ1 g1 s1 r1 => q _ H1 μ1 g1 ((s.grow g1 s1).set j r1)⟩⟩
end
end MS
set_option Elab.async false
set_option linter.all false
set_option maxRecDepth 100000
set_option maxHeartbeats 4000000
namespace MS
open PySem PySem.Spec PyProof.Rows L2
theorem meets_enumT {v : Value} {o : Obj} {Hb : Heap → Prop} (B : Begins v o Hb) :
    Meets (Builtin.«enumerate.__new__» ⟨[.type "enumerate", v], []⟩) (fun _ R s => Hb s.heap ∧
      R (.ok (.ret (.ref (s.heap.push o).objs.size))) { s with heap := (s.heap.push o).push { cls := .type "enumerate", data := .fields #[.none, .bool false, .ref s.heap.objs.size, rawInt 0, .none, .none] } }) :=
  .of_wp fun prog w A R s h => by
    obtain ⟨hp, gs, dr, tk, os⟩ := s
    obtain ⟨hb, h⟩ := h
    have hsub := sub_enumerate
    have road : ∀ {A' : Around} {E : Value → Shared → Prop} {Q : Value → Shared → Prop}, Q (.ref hp.objs.size) ⟨hp.push o, gs, dr, tk, os⟩ → wpAny (model prog w) A' (pyIter v) Q E ⟨hp, gs, dr, tk, os⟩ :=
      fun q => B.iter prog w _ _ ⟨hp, gs, dr, tk, os⟩ _ hb q
    wp_walk using road
    refine wpAny_stack_any fun _ => wpAny_pure ?_
    split
    · rename_i c _ _ _ _ _
      cases (c == Value.type "enumerate") <;> (wp_walk using road; exact ⟨_, rfl, h⟩)
    · wp_walk using road
      exact ⟨_, rfl, h⟩
section
variable {prog : Program} {w : World} {A : Around} {E : Value → Shared → Prop} {s : Shared}
theorem call_enumT {t : Addr} {its : Array Value} {Q : Value → Shared → Prop} (ht : s.heap.IsTuple t its)
    (h : ∀ h', IsEnum h' (s.heap.objs.size + 1) s.heap.objs.size 0 .none → h'.IsTupleIter s.heap.objs.size t 0 → (∀ b o, s.heap.get? b = some o → h'.get? b = some o) → Q (.ref (s.heap.objs.size + 1)) { s with heap := h' }) :
    wpAny (model prog w) A (call (.type "enumerate") [.ref t]) Q E s := by
  refine callType_new F.called_enumerate (by decide) (F.typeCall_enumerate_1 _) (F.newCall_enumerate_1 _) (fun obj => F.args_object_init_2 obj _) F.entry_enumerate_new (meets_enumT (begins_tuple t its)) ⟨ht, ?_⟩
  have hz : (s.heap.push { cls := .type "tuple_iterator", data := .fields #[.ref t, .int 0 0] }).objs.size = s.heap.objs.size + 1 := Heap.size_push ..
  show _ ∧ _
  rw [hz]
  have he := Heap.get?_push_size (s.heap.push { cls := .type "tuple_iterator", data := .fields #[.ref t, .int 0 0] }) (o := { cls := .type "enumerate", data := .fields #[.none, .bool false, .ref s.heap.objs.size, rawInt 0, .none, .none] }) rfl
  rw [hz] at he
  exact ⟨⟨_, he, rfl⟩, h _ he ⟨_, Heap.get?_push_of_some _ (Heap.get?_push_size _ rfl), rfl, rfl⟩ fun b o x => Heap.get?_push_of_some _ (Heap.get?_push_of_some _ x)⟩
end
def IteT (K : PySem.W.Frag) (a : Addr) : It :=
  ⟨fun i H => ∃ (xs : List V) (x : V), SqT K H a xs ∧ xs[i]? = some x, fun i H v H' => ∃ T x, v = .ref T ∧ H T = none ∧ H' = upd H T (.tup [.int (i : Nat), x]) ∧ ∀ xs, SqT K H a xs → xs[i]? = some x, fun i H => ∃ xs : List V, SqT K H a xs ∧ xs.length ≤ i⟩
theorem turn_enumT {P : Program} {w : World} {K : PySem.W.Frag} {elts : List Expr} {kk : Nat} {tpos : Pos} (a e it : Addr) :
    Turn P w K (.Tuple elts kk tpos) (IteT K a) [e, it] e (fun i h => (∃ old, IsEnum h e it ((i : Nat) : Int) old) ∧ h.IsTupleIter it a i ∧ e ≠ it) where
  mem := List.mem_cons_self ..
  obj := fun i h st b hb => by
    obtain ⟨⟨old, he⟩, ⟨o, ho, hc, hd⟩, _⟩ := st
    rcases (by simpa using hb : b = e ∨ b = it) with z | z
    · rw [z]; exact ⟨_, he, fun v q => nomatch q⟩
    · rw [z]; exact ⟨o, ho, fun v q => by rw [hd] at q; cases q⟩
  keep := fun i h h' ⟨⟨old, he⟩, hi, hne⟩ k => ⟨⟨old, k e (by simp) _ he⟩, hi.at fun o q => k it (by simp) o q, hne⟩
  item := by
    intro X hP hw hK hc i pins s σ H E I hf st hg
    subst hP hw hK
    obtain ⟨⟨old, he⟩, hit, hne⟩ := st
    obtain ⟨xs, x, hq, hx⟩ := hg
    obtain ⟨its, rv, p, hz⟩ := I.tuple hq
    obtain ⟨u, hu, ru⟩ := rv.get hx
    have hai : a ≠ it := fun z => by
      obtain ⟨o, ho, hcl, _⟩ := p
      obtain ⟨o', ho', hcl', _⟩ := hit
      rw [z, ho'] at ho; cases ho; rw [hcl] at hcl'
      injection hcl' with hcl'
      exact absurd hcl' (by decide)
    have hae : e ≠ a := fun z => by
      obtain ⟨o, ho, hcl, _⟩ := p
      have he' : s.heap.get? e = some _ := he
      rw [z, ho] at he'; cases he'
      injection hcl with hcl
      exact absurd hcl (by decide)
    have W := GoesN.ofWalksT (elts := elts) (k := kk) (pos := tpos) (WalksT.enumerateD (prog := X.prog) (w := X.w) (A := X.A) (Draws.tuple (A := X.A.in1) (I.ok.hd hc) it a hai its.toArray) e hne (by simp [hne, hae]) (by simp))
    have hlt : i < its.toArray.size := by rw [List.size_toArray]; exact (List.getElem?_eq_some_iff.mp hu).1
    refine W.goes i s _ E hlt ⟨⟨old, he⟩, hit, p⟩ fun v h' tk hY st' hk htk => ?_
    obtain ⟨T, vals, rfl, hT, ⟨t, x', hx', rfl⟩, hTup⟩ := hY
    have ex' : x' = u := by
      rw [List.getElem?_toArray, hu] at hx'
      exact (Option.some.inj hx').symm
    subst ex'
    have new : ObjOk X.prog X.w (upd H T (.tup [.int (i : Nat), x])) h' T (.tup [.int (i : Nat), x]) := ⟨by show 2 ≤ sizeLine; decide, [.int i t, x'], .cons ⟨_, rfl⟩ (.cons ru .nil), hTup⟩
    have I1 := I.turnedNew (t' := tk) (ch := [e, it]) hk hf hT new
    obtain ⟨⟨old', he'⟩, hit', _⟩ := st'
    refine ⟨.ref T, _, I1, rfl, ⟨T, x, rfl, I.hok.fresh hT, rfl, fun ys hy => by rw [I.tuple_inj hy hq]; exact hx⟩, ⟨⟨old', he'⟩, hit', hne⟩, fun b hb => ?_⟩
    have hbs : b < s.heap.objs.size := by
      rcases (by simpa using hb : b = e ∨ b = it) with z | z
      · rw [z]; exact Heap.lt_size he
      · rw [z]; obtain ⟨_, q, _⟩ := hit; exact Heap.lt_size q
    rw [upd_ne (Nat.ne_of_lt (Nat.lt_of_lt_of_le hbs hT))]
    exact (hf b hb).1
  done := by
    intro X hP hw hK hc i pins s σ H E I hf st hg
    subst hP hw hK
    obtain ⟨⟨old, he⟩, hit, hne⟩ := st
    obtain ⟨xs, hq, hx⟩ := hg
    obtain ⟨its, rv, p, hz⟩ := I.tuple hq
    have hl := rv.length
    refine wpAny_pyNext_enum_endD (n := i) (St := fun j h => j = i ∧ h.IsTupleIter it a i ∧ h.IsTuple a its.toArray) (fp := [it, a]) (P := fun _ _ => True)
      ⟨fun _ _ st => let ⟨o, ho, _⟩ := st.2.1; ⟨o, ho⟩, fun _ _ _ st hk => ⟨st.1, st.2.1.at fun o e => hk it (by simp) o e, st.2.2.at fun o e => hk a (by simp) o e⟩, fun j s Q E hj st => absurd st.1 (Nat.ne_of_lt hj),
        fun s Q E st hE => wpAny_nextOf_tuple_end (show X.A.in1.handled = none from I.ok.hd hc) st.2.1 st.2.2 (by rw [List.getElem?_toArray]; exact List.getElem?_eq_none (by omega)) hE⟩ he ⟨rfl, hit, p⟩ fun h' hx' => ⟨rfl, ?_⟩
    obtain ⟨f0, f1, f2, f3, f4, f5⟩ := hf it (by simp)
    exact I.turned (t' := s.toks) (fun b o hb q => hx' b o hb q) f0 f1 f3 f4 f5
  self := fun A i s Q E st h => let ⟨⟨_, he⟩, _⟩ := st; wpAny_pyIter_enum he h
def iEnumT (K : PySem.W.Frag) (ta : TA) : TI := fun σ H R => ta σ H fun vs H1 => ∃ a xs, vs = [.ref a] ∧ SqT K H1 a xs ∧ R (IteT K a) H1
section
variable {X : Cx} {e : Expr} {p pos tpos : Pos} {elts : List Expr} {kk : Nat}
theorem pi_enumT {ta : TA} (hg : Gl X "enumerate") (hm : X.mg "enumerate" = none) (ha : PA X [e] ta) (hs : starEach [e] X.env = [(false, eval e X.env)] := by rfl) :
    PI X (.Tuple elts kk tpos) (.Call (.Name "enumerate" p) [e] [] pos) (iEnumT X.K ta) := by
  refine ⟨fun pins s σ H R I h => ?_⟩
  refine Call_ (ld_blt I hg hm boot_enumerate (PyProof.Rows.callWith_type1 (thn (ha.run pos pins s σ H _ I h) fun us s1 h1 => ?_) hs rfl))
  obtain ⟨vs, H1, I1, r1, a, xs, ex, hq, q⟩ := h1
  subst ex
  cases r1 with
  | cons r rr =>
    cases rr
    cases r
    obtain ⟨its, rv, pt, hz⟩ := I1.tuple hq
    refine call_enumT pt fun h' he hit hk => wpAny_pyIter_enum he ?_
    refine ⟨s1.heap.objs.size + 1, [s1.heap.objs.size + 1, s1.heap.objs.size], _, _, H1, rfl, I1.kept (t' := s1.toks) hk, turn_enumT a (s1.heap.objs.size + 1) s1.heap.objs.size, ⟨⟨.none, he⟩, hit, Nat.succ_ne_self _⟩, fun b hb => ?_, q⟩
    have hle : s1.heap.objs.size ≤ b := by
      rcases (by simpa using hb : b = s1.heap.objs.size + 1 ∨ b = s1.heap.objs.size) with z | z
      · rw [z]; exact Nat.le_add_right _ _
      · rw [z]; exact Nat.le_refl _
    exact I1.fpOk hle (I1.hok.fresh hle)
def enumD (ds : List D) : List D := ds.mapIdx fun i d => .tup [.int (i : Int), d]
theorem enumD_length {ds : List D} : (enumD ds).length = ds.length := List.length_mapIdx
theorem enumD_get {ds : List D} {i : Nat} {d : D} (h : (enumD ds)[i]? = some d) : ∃ x, ds[i]? = some x ∧ d = .tup [.int (i : Int), x] := by
  unfold enumD at h
  rw [List.getElem?_mapIdx] at h
  obtain ⟨x, h1, h2⟩ := Option.map_eq_some_iff.mp h
  exact ⟨x, h1, h2.symm⟩
def mEnum (m : MArg) : MItr := fun ρ S => (m ρ S).bind fun p => match p.1 with
  | [.tup ds] => some ((enumD ds, always), p.2)
  | [.lst ds] => some ((enumD ds, always), p.2)
  | [.lr n] => (lat p.2 n).bind fun ds => some ((enumD ds, still n ds), p.2)
  | _ => none
theorem pairNew {K : PySem.W.Frag} {H : Hp} {μ : Mu} {S : Store} {T : Addr} {x y : V} {d e : D} (s : StR K H μ S) (hT : H T = none) (r1 : Rp K H μ x d) (r2 : Rp K H μ y e) :
    Grow H (upd H T (.tup [x, y])) μ μ ∧ StR K (upd H T (.tup [x, y])) μ S ∧ Rp K (upd H T (.tup [x, y])) μ (.ref T) (.tup [d, e]) :=
  ⟨.new hT, s.new hT, .tup (.inl upd_same) (.cons (r1.grow (.new hT)) (.cons (r2.grow (.new hT)) .nil))⟩
theorem isIt_enumT {K : PySem.W.Frag} {H0 : Hp} {μ0 : Mu} {a : Addr} {vs : List V} {ds : List D} (h1 : SqT K H0 a vs) (h2 : RpA K H0 μ0 vs ds) : IsIt K (IteT K a) H0 μ0 (enumD ds) always where
  go := fun i H μ S g s h hi => by
    rw [enumD_length] at hi
    have hi' : i < vs.length := by rw [h2.length]; exact hi
    exact ⟨vs, vs[i], g.sqT h1, List.getElem?_eq_getElem hi'⟩
  stop := fun H μ S g s h => ⟨vs, g.sqT h1, by rw [enumD_length, h2.length]; exact Nat.le_refl _⟩
  yld := fun i H μ S x H' g s h y d hd => by
    obtain ⟨T, z, rfl, hT, rfl, y⟩ := y
    obtain ⟨d', e1, rfl⟩ := enumD_get hd
    obtain ⟨w, h3, h4⟩ := (h2.grow g).get e1
    rw [y vs (g.sqT h1)] at h3
    cases h3
    exact pairNew s hT (.int _) h4
theorem isIt_enumL {K : PySem.W.Frag} {H0 : Hp} {μ0 : Mu} {n : Nat} {a : Addr} {ds : List D} (r : Rp K H0 μ0 (.ref a) (.lr n)) : IsIt K (Ite K a) H0 μ0 (enumD ds) (still n ds) where
  go := fun i H μ S g s h hi => by
    rw [enumD_length] at hi
    obtain ⟨a', vs, e1, h1, h2⟩ := s.lat (still_eq h) (r.grow g)
    cases e1
    have hi' : i < vs.length := by rw [h2.length]; exact hi
    exact ⟨vs, vs[i], h1, List.getElem?_eq_getElem hi'⟩
  stop := fun H μ S g s h => by
    obtain ⟨a', vs, e1, h1, h2⟩ := s.lat (still_eq h) (r.grow g)
    cases e1
    exact ⟨vs, h1, by rw [enumD_length, h2.length]; exact Nat.le_refl _⟩
  yld := fun i H μ S x H' g s h y d hd => by
    obtain ⟨T, z, rfl, hT, rfl, y⟩ := y
    obtain ⟨d', e1, rfl⟩ := enumD_get hd
    obtain ⟨a', vs, e2, h1, h2⟩ := s.lat (still_eq h) (r.grow g)
    cases e2
    obtain ⟨w, h3, h4⟩ := h2.get e1
    rw [y vs h1] at h3
    cases h3
    exact pairNew s hT (.int _) h4
theorem isIt_enumV {K : PySem.W.Frag} {H0 : Hp} {μ0 : Mu} {a : Addr} {vs : List V} {ds : List D} (h1 : LsV H0 μ0 a vs) (h2 : RpA K H0 μ0 vs ds) : IsIt K (Ite K a) H0 μ0 (enumD ds) always where
  go := fun i H μ S g s h hi => by
    rw [enumD_length] at hi
    have hi' : i < vs.length := by rw [h2.length]; exact hi
    exact ⟨vs, vs[i], (h1.grow g).sqL, List.getElem?_eq_getElem hi'⟩
  stop := fun H μ S g s h => ⟨vs, (h1.grow g).sqL, by rw [enumD_length, h2.length]; exact Nat.le_refl _⟩
  yld := fun i H μ S x H' g s h y d hd => by
    obtain ⟨T, z, rfl, hT, rfl, y⟩ := y
    obtain ⟨d', e1, rfl⟩ := enumD_get hd
    obtain ⟨w, h3, h4⟩ := (h2.grow g).get e1
    rw [y vs (h1.grow g).sqL] at h3
    cases h3
    exact pairNew s hT (.int _) h4
theorem mi_enum {m : MArg} (hg : Gl X "enumerate") (hm : X.mg "enumerate" = none) (ha : MA X [e] m) (hs : starEach [e] X.env = [(false, eval e X.env)] := by rfl) : MI X (.Tuple elts kk tpos) (.Call (.Name "enumerate" p) [e] [] pos) (mEnum m) := by
  refine ⟨⟨fun pins s σ H R I h => ?_⟩⟩
  obtain ⟨ρ, S, μ, p, S', st, e1, q⟩ := h
  obtain ⟨⟨ds, S1⟩, e2, e1⟩ := Option.bind_eq_some_iff.mp e1
  dsimp only at e1
  split at e1
  · cases e1
    refine (pi_enumT hg hm ha.pa hs).run pins s σ H R I ⟨ρ, S, μ, _, _, st, e2, fun vs H1 μ1 g1 s1 r1 => ?_⟩
    match vs, r1 with
    | _, .cons (.tup h1 h2) .nil => exact ⟨_, _, rfl, sq _ _ h1, q _ H1 μ1 g1 s1 (isIt_enumT (sq _ _ h1) h2)⟩
  · cases e1
    refine (pi_enum hg hm ha.pa hs).run pins s σ H R I ⟨ρ, S, μ, _, _, st, e2, fun vs H1 μ1 g1 s1 r1 => ?_⟩
    match vs, r1 with
    | _, .cons (.lst h1 h2) .nil => exact ⟨_, _, rfl, h1.sqL, q _ H1 μ1 g1 s1 (isIt_enumV h1 h2)⟩
  · obtain ⟨ds', e3, e1⟩ := Option.bind_eq_some_iff.mp e1
    cases e1
    refine (pi_enum hg hm ha.pa hs).run pins s σ H R I ⟨ρ, S, μ, _, _, st, e2, fun vs H1 μ1 g1 s1 r1 => ?_⟩
    match vs, r1 with
    | _, .cons r1 .nil =>
      obtain ⟨a, ws, rfl, h1, h2⟩ := s1.lat e3 r1
      exact ⟨a, ws, rfl, h1, q _ H1 μ1 g1 s1 (isIt_enumL r1)⟩
  · cases e1
end
section
variable {X : Cx} {x : Str} {p pos : Pos} {e : Expr} {es : List Expr} {m : MArg} {f : DCall} {id T : String}
theorem me_callB (hc : CallR X (.builtin id) (rCM X.K f)) (hg : Gl X x) (hm : X.mg x = none) (hv : bootBuiltins x = some (.builtin id)) (ha : MA X (e :: es) m) (hn : x ≠ "__name__" := by decide) (hdb : (x == ("__debug__" : Str)) = false := by decide)
    (he : starEach (e :: es) X.env = (false, eval e X.env) :: starEach es X.env := by rfl) (hpl : (backTo pos (starEach es X.env)).any (·.1) = false := by rfl) : ME X (.Call (.Name x p) (e :: es) [] pos) (mCall f m) :=
  ⟨PE.imp (pe_callB hc hg hm hv ha.pa hn hdb he hpl) fun _ _ _ h => tE_call h⟩
theorem me_callTy (hc : CallR X (.type T) (rCM X.K f)) (hg : Gl X x) (hm : X.mg x = none) (hv : bootBuiltins x = some (.type T)) (ha : MA X (e :: es) m) (hn : x ≠ "__name__" := by decide) (hdb : (x == ("__debug__" : Str)) = false := by decide)
    (he : starEach (e :: es) X.env = (false, eval e X.env) :: starEach es X.env := by rfl) (hpl : (backTo pos (starEach es X.env)).any (·.1) = false := by rfl) : ME X (.Call (.Name x p) (e :: es) [] pos) (mCall f m) :=
  ⟨PE.imp (pe_callTy hc hg hm hv ha.pa hn hdb he hpl) fun _ _ _ h => tE_call h⟩
def cLen : DCall := fun ds S => match ds with
  | [d] => (items S d).bind fun xs => some (.int (xs.length : Int), S)
  | _ => none
theorem c_len : CallR X (.builtin "len") (rCM X.K cLen) := CallR.imp call_len_seq fun vs H Q ⟨S, μ, ds, d, S', s, r, e, q⟩ => by
  match ds, r, e with
  | [d0], .cons r1 .nil, e =>
    obtain ⟨xs, e1, e⟩ := Option.bind_eq_some_iff.mp (show ((items S d0).bind fun xs => some (D.int (xs.length : Int), S)) = some (d, S') from e)
    cases e
    obtain ⟨a, ws, rfl, h1, h2⟩ := s.items e1 r1
    exact ⟨a, ws, rfl, h1, by rw [h2.length]; exact q.id s (.int _)⟩
  | [], _, e => cases e
  | _ :: _ :: _, _, e => cases e
def cList : DCall := fun ds S => match ds with
  | [d] => (items S d).bind fun xs => some (.lr S.length, S ++ [.lst xs])
  | _ => none
theorem c_list : CallR X (.type "list") (rCM X.K cList) := CallR.imp call_list_of fun vs H Q ⟨S, μ, ds, d, S', s, r, e, q⟩ => by
  match ds, r, e with
  | [d0], .cons r1 .nil, e =>
    obtain ⟨xs, e1, e⟩ := Option.bind_eq_some_iff.mp (show ((items S d0).bind fun xs => some (D.lr S.length, S ++ [.lst xs])) = some (d, S') from e)
    cases e
    obtain ⟨a, ws, rfl, h1, h2⟩ := s.items e1 r1
    exact ⟨a, ws, rfl, h1, fun l hl => q.lst s h2 hl⟩
  | [], _, e => cases e
  | _ :: _ :: _, _, e => cases e
def cTuple : DCall := fun ds S => match ds with
  | [d] => (items S d).bind fun xs => some (.tup xs, S)
  | _ => none
theorem c_tuple : CallR X (.type "tuple") (rCM X.K cTuple) := CallR.imp call_tuple_of fun vs H Q ⟨S, μ, ds, d, S', s, r, e, q⟩ => by
  match ds, r, e with
  | [d0], .cons r1 .nil, e =>
    obtain ⟨xs, e1, e⟩ := Option.bind_eq_some_iff.mp (show ((items S d0).bind fun xs => some (D.tup xs, S)) = some (d, S') from e)
    cases e
    obtain ⟨a, ws, rfl, h1, h2⟩ := s.itemsO e1 r1
    refine ⟨a, ws, rfl, ?_⟩
    rcases h1 with h1 | ⟨h1, _⟩
    · exact .inl ⟨h1, fun l hl => q.tup s h2 hl⟩
    · exact .inr ⟨sq _ _ h1, q.id s (.tup h1 h2)⟩
  | [], _, e => cases e
  | _ :: _ :: _, _, e => cases e
def cInt : DCall := fun ds S => match ds with
  | [.int i] => some (.int i, S)
  | [.bl b] => some (.int (if b then 1 else 0), S)
  | _ => none
theorem c_int : CallR X (.type "int") (rCM X.K cInt) := CallR.imp call_int1 fun vs H Q ⟨S, μ, ds, d, S', s, r, e, q⟩ => by
  unfold cInt at e
  split at e
  · cases e
    match vs, r with
    | _, .cons (.int i) .nil => exact .inl ⟨_, rfl, q.id s (.int _)⟩
  · cases e
    match vs, r with
    | _, .cons (.bl i) .nil => exact .inr ⟨_, rfl, q.id s (.int _)⟩
  · cases e
def cAbs : DCall := fun ds S => match ds with
  | [.int i] => some (.int (if i < 0 then -i else i), S)
  | _ => none
def cMax : DCall := fun ds S => match ds with
  | [.int i, .int j] => some (.int (if j > i then j else i), S)
  | _ => none
theorem c_max (hc : X.calm = true) : CallR X (.builtin "max") (rCM X.K cMax) := CallR.imp (call_max2 hc) fun vs H Q ⟨S, μ, ds, d, S', s, r, e, q⟩ => by
  unfold cMax at e
  split at e
  · cases e
    match vs, r with
    | _, .cons (.int i) (.cons (.int j) .nil) => exact ⟨_, _, rfl, q.id s (.int _)⟩
  · cases e
def cMin : DCall := fun ds S => match ds with
  | [.int i, .int j] => some (.int (if j < i then j else i), S)
  | _ => none
theorem c_min (hc : X.calm = true) : CallR X (.builtin "min") (rCM X.K cMin) := CallR.imp (call_min2 hc) fun vs H Q ⟨S, μ, ds, d, S', s, r, e, q⟩ => by
  unfold cMin at e
  split at e
  · cases e
    match vs, r with
    | _, .cons (.int i) (.cons (.int j) .nil) => exact ⟨_, _, rfl, q.id s (.int _)⟩
  · cases e
def mApp (m : MExp) (a : MArg) : MExp := fun ρ S => (m ρ S).bind fun p => match p.1 with
  | .lr n => (mat p.2 n).bind fun _ => (a ρ p.2).bind fun q => match q.1 with
    | [d] => (mat q.2 n).bind fun ds => if ds.length < szl then some (.non, q.2.set n (.lst (ds ++ [d]))) else none
    | _ => none
  | _ => none
theorem me_app {o : Expr} {mo : MExp} {apos cpos : Pos} (ho : ME X o mo) (ha : MA X (e :: es) m)
    (hbase : attributeBase o "append" X.env (eval o X.env) = eval o X.env := by rfl)
    (hfew : ((backTo cpos (starEach (e :: es) X.env)).all (fun x => !x.1) && (backToKw cpos (keywordEach [] X.env)).all (fun x => x.1.isSome)
      && decide ((e :: es).length + ([] : List Keyword).length + (if ([] : List Keyword).isEmpty then 0 else 1) < 30)) = true := by rfl)
    (hline : (apos.endLine == cpos.line) = true := by rfl) (hs : starEach (e :: es) X.env = (false, eval e X.env) :: starEach es X.env := by rfl) (hplain : (backTo cpos (starEach es X.env)).any (·.1) = false := by rfl) :
    ME X (.Call (.Attribute o "append" apos) (e :: es) [] cpos) (mApp mo m) :=
  ⟨PE.imp (pe_bm PySem.F.plainAttrs_list PySem.F.slot_list_append PySem.F.type_list_append mt_append ho.pe ha.pa hbase hfew hline hs hplain) fun σ H Q ⟨ρ, S, μ, d, S', st, e, q⟩ => by
    obtain ⟨⟨d1, S1⟩, e1, e⟩ := Option.bind_eq_some_iff.mp e
    refine ⟨ρ, S, μ, d1, S1, st, e1, fun v H1 μ1 g1 s1 r1 => ?_⟩
    cases d1 with
    | lr n =>
      obtain ⟨ds0, e2, e⟩ := Option.bind_eq_some_iff.mp (show ((mat S1 n).bind fun _ => (m ρ S1).bind fun q => (match q.1 with
        | [d] => (mat q.2 n).bind fun ds => if ds.length < szl then some (D.non, q.2.set n (.lst (ds ++ [d]))) else none
        | _ => none)) = some (d, S') from e)
      obtain ⟨⟨as, S2⟩, e3, e⟩ := Option.bind_eq_some_iff.mp e
      obtain ⟨a, vs, rfl, h1, h2, h3⟩ := s1.mat e2 r1
      refine ⟨.inl ⟨rfl, vs, .inl (.inl h2)⟩, ρ, S1, μ1, as, S2, st.grow g1 s1, e3, fun ws H2 μ2 g2 s2 r2 => ?_⟩
      match as, r2, e with
      | [d0], .cons r3 .nil, e =>
        obtain ⟨ds, e4, e⟩ := Option.bind_eq_some_iff.mp (show ((mat S2 n).bind fun ds => if ds.length < szl then some (D.non, S2.set n (.lst (ds ++ [d0]))) else none) = some (d, S') from e)
        split at e
        · rename_i hz
          cases e
          obtain ⟨a', vs', h4, h5, h6, h7⟩ := s2.mat e4 (r1.grow g2)
          cases h4
          refine ⟨a, vs', _, rfl, rfl, h6, by rw [h7.length]; exact szl_lt hz, ?_⟩
          exact q _ _ μ2 ((g1.trans g2).trans (.wrS s2 (mat_eq e4) rfl h5)) (s2.wr (mat_eq e4) h5 (h7.append (.cons r3 .nil))) .non
        · cases e
      | [], _, e => cases e
      | _ :: _ :: _, _, e => cases e
    | _ => cases e⟩
end
end MS
set_option Elab.async false
set_option linter.all false
set_option maxRecDepth 100000
set_option maxHeartbeats 4000000
namespace MS
open PySem PySem.Spec PyProof.Rows L2
def okShow (p : PyData) : Bool := p.showable && !p.hasDict && decide (p.depth ≤ 64) && decide (p.shown.length ≤ szl)
def cRepr : DCall := fun ds S => match ds with
  | [d] => (toPy S 64 d).bind fun p => if okShow p then some (.str p.shown, S) else none
  | _ => none
section
variable {X : Cx}
theorem c_repr (hg : X.A.guards = some []) (hu : X.A.units + 80 < cLine) : CallR X (.builtin "repr") (rCM X.K cRepr) := by
  intro pins s σ H xs us Q I r ⟨S, μ, ds, d, S', st, rr, e, q⟩
  unfold cRepr at e
  split at e
  · rename_i d0
    obtain ⟨p, e1, e⟩ := Option.bind_eq_some_iff.mp e
    split at e
    · rename_i hok
      cases e
      unfold okShow at hok
      simp only [Bool.and_eq_true, decide_eq_true_eq, Bool.not_eq_true'] at hok
      obtain ⟨⟨⟨h1, h2⟩, h3⟩, h4⟩ := hok
      have h4 : p.shown.length ≤ sizeLine := szl_le h4
      match xs, rr, us, r with
      | [v], .cons r1 .nil, [u], .cons ru .nil =>
        have dp := dp_of st 64 d0 v p e1 r1
        obtain ⟨as, rd⟩ := Dp.reads I p v u dp ru
        have fin : ∀ (t : Tok) (h' : Heap) (tk : Nat), (∀ b o, s.heap.get? b = some o → h'.get? b = some o) → EP X pins σ Q (.str p.shown t) { s with heap := h', toks := tk } := fun t h' tk hk => ⟨.str p.shown, H, I.kept (t' := tk) hk, ⟨t, rfl⟩, q.id st (.str _)⟩
        cases rd with
        | none => exact PySem.P.repr_of_none (fin _ _ _ fun _ _ z => z)
        | bool b => exact PySem.P.repr_of_bool (fin _ _ _ fun _ _ z => z)
        | int i t => exact PySem.P.repr_of_int (of_decide_eq_true h1) (fin _ _ _ fun _ _ z => z)
        | str x t => exact PySem.P.repr_of_str (fin _ _ _ fun _ _ z => z) h4
        | list a1 a2 a3 a4 => exact repr_of_reads' (.list a1 a2 a3 a4) h1 (fun z => by rw [h2] at z; cases z) hg (by omega) (fun _ _ z => z) (fun h' t tk hk => fin t h' tk hk) h4
        | tuple a1 a2 a3 a4 => exact repr_of_reads' (.tuple a1 a2 a3 a4) h1 (fun z => by rw [h2] at z; cases z) hg (by omega) (fun _ _ z => z) (fun h' t tk hk => fin t h' tk hk) h4
        | dict a1 a2 a3 a4 a5 => cases dp
    · cases e
  · cases e
end
section
variable {prog : Program} {w : World} {A : Around} {E : Value → Shared → Prop} {s : Shared}
theorem sliceApplied_back {sl : Addr} {vl vu vs : Value} {n : Nat} {Q : Int × Int × Nat → Shared → Prop} (hs : s.heap.IsSliceOf sl vl vu vs) (pl : IsPart vl none) (pu : IsPart vu none) (ps : IsPart vs (some (-1)))
    (h : Q ((n : Int) - 1, -1, n) s) : wpAny (model prog w) A (Builtin.Slice.sliceApplied (.ref sl) (pure (n : Int))) Q E s := by
  obtain ⟨os, hos, hcs, hds⟩ := id hs
  unfold Builtin.Slice.sliceApplied Builtin.Slice.sliceFields
  refine wpAny_bind (wpAny_bind (wpAny_field hos hds (x := vl) rfl (wpAny_bind (wpAny_field hos hds (x := vu) rfl (wpAny_bind (wpAny_field hos hds (x := vs) rfl (wpAny_pure ?_)))))))
  refine wpAny_bind (HT.slicePart_ ps ?_)
  show wpAny _ _ (if ((-1 : Int) == 0) = true then _ else _) _ _ s
  rw [if_neg (by decide)]
  refine wpAny_bind (HT.slicePart_ pl (wpAny_bind (HT.slicePart_ pu (wpAny_bind (wpAny_pure ?_)))))
  have e : Builtin.Slice.slicePlaces ((n : Int) - 1) (-1) (-1) = n := by
    unfold Builtin.Slice.slicePlaces
    simp only [show ¬ ((-1 : Int) > 0) by decide, if_false]
    split
    · rw [show (- -1 : Int) = 1 by decide, Int.ediv_one]; omega
    · omega
  show wpAny _ _ (pure ((n : Int) - 1, (-1 : Int), Builtin.Slice.slicePlaces ((n : Int) - 1) (-1) (-1))) _ _ s
  rw [e]
  exact wpAny_pure h
theorem fm_congr {α β : Type} {f g : α → Option β} : ∀ {l : List α}, (∀ x ∈ l, f x = g x) → l.filterMap f = l.filterMap g
  | [], _ => rfl
  | a :: l, h => by
    rw [List.filterMap_cons, List.filterMap_cons, h a (List.mem_cons_self ..), fm_congr fun x hx => h x (List.mem_cons_of_mem _ hx)]
theorem pick_back (xs : Array Value) : ((List.range xs.size).filterMap fun (m : Nat) => xs[((xs.size : Int) - 1 + (m : Int) * -1).toNat]?).toArray = xs.toList.reverse.toArray := by
  congr 1
  rw [← PySem.W.krv_all xs, ← List.filterMap_reverse, ← PySem.W.krv_range, List.filterMap_map]
  refine fm_congr fun m hm => ?_
  have := List.mem_range.mp hm
  show xs[((xs.size : Int) - 1 + (m : Int) * -1).toNat]? = xs[xs.size - 1 - m]?
  congr 1
  omega
theorem getItem_tuple_back {t sl : Addr} {its : Array Value} {vl vu vs : Value} {Q : Value → Shared → Prop} (ht : IsTup s.heap t its) (hs : s.heap.IsSliceOf sl vl vu vs) (pl : IsPart vl none) (pu : IsPart vu none) (ps : IsPart vs (some (-1)))
    (h : Q (.ref s.heap.objs.size) { s with heap := s.heap.push { cls := .type "tuple", data := .seq its.toList.reverse.toArray } }) (hsz : its.size ≤ sizeLine) : wpAny (model prog w) A (getItem (.ref t) (.ref sl)) Q E s := by
  have hlen : sizeOk (.seq its.toList.reverse.toArray) := by
    show its.toList.reverse.toArray.size ≤ sizeLine
    rw [List.size_toArray, List.length_reverse, Array.length_toList]
    exact hsz
  obtain ⟨os, hos, hcs, hds⟩ := id hs
  have hTs : s.TypeIs (.ref sl) "slice" := ⟨os, hos, hcs⟩
  unfold getItem
  try with_reducible refine wpAny_holding ?_
  first | refine wpAny_bind (wpAny_pure ?_) | skip
  refine wpAny_bind (wpAny_sequenceKey ht.typeIs (by decide) ?_)
  refine wpAny_bind (wpAny_callSpecial?_slot (name := Str.ofString "__getitem__") ht.typeIs PyProof.Rows.slot_tuple_getitem (wpAny_call_entry PyProof.Rows.slot_tuple_getitem ht.typeIs entry_tuple_getitem ?_ (args_tuple_getitem _ _)))
  show wpAny _ _ (Builtin.Tuple.tupleItemsOf (.ref t) >>= _) _ _ s
  refine wpAny_bind (tupleItemsOf_ ht (wpAny_bind (wpAny_typeOf hTs ?_)))
  rw [if_pos (by decide)]
  refine wpAny_bind (sliceApplied_back hs pl pu ps ?_)
  show wpAny _ _ (if (((its.size : Int) - 1 == 0) && ((-1 : Int) == 1) && (its.size == its.size)) = true then _ else _) _ _ s
  rw [if_neg (by simp), pick_back]
  first
    | exact wpAny_bind (m := Builtin.Tuple.tupleExact _) (wpAny_newObj_type (wpAny_pure ⟨_, rfl, wpAny_pure h⟩) hlen)
    | exact wpAny_bind (m := Builtin.Tuple.tupleExact _) (wpAny_newObj_type (wpAny_bind (wpAny_pure (wpAny_pure ⟨_, rfl, wpAny_pure h⟩))) hlen)
    | exact wpAny_bind (wpAny_bind (m := Builtin.Tuple.tupleExact _) (wpAny_newObj_type (wpAny_pure (wpAny_pure ⟨_, rfl, wpAny_pure h⟩)) hlen))
    | exact wpAny_bind (wpAny_bind (m := Builtin.Tuple.tupleExact _) (wpAny_newObj_type (wpAny_pure ⟨_, rfl, wpAny_pure h⟩) hlen))
end
def mRevT (m : MExp) : MExp := fun ρ S => (m ρ S).bind fun p => match p.1 with
  | .tup ds => some (.tup ds.reverse, p.2)
  | _ => none
theorem me_revT {X : Cx} {e : Expr} {m : MExp} {k : Nat} {p1 p2 p3 pos : Pos} (he : ME X e m) : ME X (.Subscript e (.Slice none none (some (.UnaryOp .USub (.Constant (.int 1) k p1) p2)) p3) pos) (mRevT m) := by
  refine ⟨⟨fun pins s σ H Q I ⟨ρ, S, μ, d, S', st, e, q⟩ => ?_⟩⟩
  obtain ⟨⟨d1, S1⟩, e1, e⟩ := Option.bind_eq_some_iff.mp e
  refine Subscript_ (thn (he.pe.run pins s σ H (fun v H1 => ∃ μ1, Grow H H1 μ μ1 ∧ StR X.K H1 μ1 S1 ∧ Rp X.K H1 μ1 v d1) I ⟨ρ, S, μ, d1, S1, st, e1, fun v H' μ' g1 s1 r1 => ⟨μ', g1, s1, r1⟩⟩) fun v s1 h1 => ?_)
  obtain ⟨x, H1, I1, r1, μ1, g1, st1, rp⟩ := h1
  cases d1 with
  | tup ds =>
    cases e
    cases rp with
    | tup hT hA =>
    cases r1
    have hst : PO X (some (.UnaryOp .USub (.Constant (.int 1) k p1) p2)) (tPart (tUn (rU fun i => .int (-i)) (tC (.int 1)))) := po_some (pe_un un_neg pe_int)
    refine wpAny_Slice (thn (po_none.run pins s1 σ H1 (fun o H2 => o = none ∧ H2 = H1) I1 ⟨rfl, rfl⟩) fun vl s2 h2 => ?_)
    obtain ⟨l, H2, I2, pl, rfl, rfl⟩ := h2
    refine thn (po_none.run pins s2 σ H2 (fun o H3 => o = none ∧ H3 = H2) I2 ⟨rfl, rfl⟩) fun vu s3 h3 => ?_
    obtain ⟨u, H3, I3, pu, rfl, rfl⟩ := h3
    refine thn (hst.run pins s3 σ H3 (fun o H4 => o = some (-1) ∧ H4 = H3) I3 ⟨1, rfl, -1, rfl, rfl, rfl⟩) fun vs s4 h4 => ?_
    obtain ⟨o, H4, I4, ps, rfl, rfl⟩ := h4
    have I5 : Inv X pins σ H4 { s4 with heap := s4.heap.push { cls := .type "slice", data := .fields #[vl, vu, vs] } } := I4.kept (t' := s4.toks) fun b ob q => Heap.get?_push_of_some _ q
    obtain ⟨its, r, ht, hz⟩ := I5.tuple (sq _ _ hT)
    have hlen := r.length
    rename_i a xs
    refine tail_any (ops := [.ref a, .ref s4.heap.objs.size]) ht.typeIs PyProof.Rows.slot_tuple_getitem.lookup ?_ (by with_unfolding_all rfl)
    refine getItem_tuple_back ht (Heap.IsSliceOf.new _ vl vu vs) pl pu ps ?_ (by rw [List.size_toArray]; omega)
    refine ⟨.ref _, _, I5.laid (t' := s4.toks) (o := .tup xs.reverse) (fun b ob q => Heap.get?_push_of_some _ q) (Nat.le_refl _) ?_, rfl, Aft.tup (fun v H' μ' g2 => q v H' μ' (g1.trans g2)) st1 hA.reverse (I5.hok.fresh (Nat.le_refl _))⟩
    exact ⟨by rw [List.length_reverse]; exact hz, _, by simpa using r.reverse, ⟨_, Heap.get?_push_size _ rfl, rfl, _, rfl⟩⟩
  | _ => cases e
end MS
set_option Elab.async false
set_option linter.all false
set_option maxRecDepth 100000
set_option maxHeartbeats 4000000
namespace MS
open PySem PySem.Spec PyProof.Rows L2
section
variable {P : Program} {w : World} {K : PySem.W.Frag} {mg : Str → Option Value} {base : Heap}
structure FnG (P : Program) (w : World) (K : PySem.W.Frag) (mg : Str → Option Value) (base : Heap) (k : Nat) (f : Addr) (fd : FuncData) (ps : List Str) (F : DCall) : Prop where
  run : ∀ (A : Around) (outer : List Env) (s : Shared) (H : Hp) (args : Args) (us : List Value) (vs : List V) (Q : VK) (S : Store) (μ : Mu) (ds : List D) (d : D) (S' : Store), Room k A → A.guards = some [] → Env0 P w K mg base A outer s H →
    BindsTo s fd args (ps.zip us) → Vals vs us → vs.length = ps.length → StR K H μ S → RpA K H μ vs ds → F ds S = some (d, S') → Aft K H μ d S' Q → codeAny (model P w) A (.call (.ref f) args) (CR CX0 outer P w H s Q E0) s
theorem FnG.mono {j k : Nat} {f : Addr} {fd : FuncData} {ps : List Str} {F : DCall} (h : FnG P w K mg base j f fd ps F) (l : j ≤ k) : FnG P w K mg base k f fd ps F :=
  ⟨fun A outer s H args us vs Q S μ ds d S' hr => h.run A outer s H args us vs Q S μ ds d S' (hr.mono l)⟩
def startD (n : Nat) (ds : List D) : Ev := ds.map some ++ List.replicate (n - ds.length) none
theorem sim_start {H : Hp} {μ : Mu} {S : Store} {N : List Str} {vs : List V} {ds : List D} (st : StR K H μ S) (r : RpA K H μ vs ds) : Sim K H μ (L2.start N vs) (startD N.length ds) S := by
  refine ⟨st, ?_, fun i d e => ?_⟩
  · unfold startD L2.start
    rw [List.length_append, List.length_append, List.length_map, List.length_map, List.length_replicate, List.length_replicate, r.length]
  · unfold startD at e
    by_cases hi : i < ds.length
    · rw [List.getElem?_append_left (by rw [List.length_map]; exact hi), List.getElem?_map] at e
      obtain ⟨d', h1, h2⟩ := Option.map_eq_some_iff.mp e
      cases h2
      obtain ⟨v, h3, h4⟩ := r.get h1
      refine ⟨v, ?_, h4⟩
      unfold L2.start
      rw [List.getElem?_append_left (by rw [List.length_map, r.length]; exact hi), List.getElem?_map, h3]
      rfl
    · rw [List.getElem?_append_right (by rw [List.length_map]; omega), List.getElem?_replicate] at e
      split at e <;> cases e
def Does (n : Nat) (m : MStm) (F : DCall) : Prop := ∀ ds S d S', F ds S = some (d, S') → ∃ f ρ', m (startD n ds) S = some (f, ρ', S') ∧ (f = .rt d ∨ (f = .nx ∧ d = .non))
abbrev bodyX (P : Program) (w : World) (K : PySem.W.Frag) (mg : Str → Option Value) (base : Heap) (N : List Str) (qual : Str) (st : Stmt) (f : Addr) (cdv : Value) (A : Around) (outer : List Env) (s : Shared) (H : Hp) : Cx := (cxOf CX0 P w K mg base N qual (defScope st) f cdv A outer s H E0).nox
theorem fnG_of {x qual : Str} {st : Stmt} {f : Addr} {fd : FuncData} {N ps : List Str} {k : Nat} {F : DCall} (fn : Fun K x qual st f fd) (sc : FnScope N ps (defScope st))
    (hbody : ∀ (cdv : Value) (A : Around) (outer : List Env) (s : Shared) (H : Hp), let X := bodyX P w K mg base N qual st f cdv A outer s H; Room k X.A → X.A.guards = some [] → ∃ m, MSs X (defBody st) m ∧ Does N.length m F) : FnG P w K mg base (k + 1) f fd ps F := by
  obtain ⟨oc, od, kV, doc, pm, an, cdv, ct, osl, rfl, lk, hcd⟩ := fn.ex
  refine ⟨fun A outer s H args us vs Q S μ ds d S' hr hg he hb hv hl st' ra e q => ?_⟩
  have KX : K.In s.heap := he.mod.kin.keeps fun b o z => (he.bs b o z).1
  have kinds : ∀ y ∈ ps.zip us, (defScope st).names.lookup y.1 = some .local ∨ ((defScope st).names.lookup y.1 = some .cell ∧ ((cellsFrom (s.heap.objs.size + 1) (defScope st).names []).lookup y.1).isSome = true) := by
    rintro ⟨y, z⟩ hy
    rcases sc.par y (List.of_mem_zip hy).1 with c | c
    · exact .inl c
    · exact .inr ⟨c, PySem.W.cellsFrom_some _ _ _ (.inl c)⟩
  refine codeAny_call_function hr.depth (KX _ _ lk) rfl sc.co sc.gen rfl (PySem.W.codeRec_of KX hcd) (hb _ _ _ _ (wpAny_newFunctionEnv_cells sc.kind kinds fun env he' s1 ic => ?_))
  subst he'
  refine ⟨(he.mod.nolimit.keeps fun b o z => (he.bs b o z).1).keeps ic.toInCall.keep, codeAny_func ?_⟩
  obtain ⟨m, hm, hd⟩ := hbody cdv A outer s H (hr.deeper _) (by show (A.deeper _).guards = some []; exact hg)
  obtain ⟨f', ρ', h1, h2⟩ := hd ds S d S' e
  have I0 : Inv (cxOf CX0 P w K mg base N qual (defScope st) f cdv A outer s H E0) [] (L2.start N vs) H s1 := inv_start sc hr.hd he hl hv ic
  have rd : tS K m { nx := fun _ H' => Q .non H', rt := Q } (L2.start N vs) H := by
    refine ⟨_, S, μ, f', ρ', S', sim_start st' ra, h1, fun σ' H' μ' g sm => ?_⟩
    rcases h2 with rfl | ⟨rfl, rfl⟩
    · exact fun v r => q v H' μ' g sm.st r
    · exact q .non H' μ' g sm.st .non
  refine wpAny_mono (hm.pss.nox.run [] s1 (L2.start N vs) H _ I0 rd) (fun fl s' hs => ?_) fun e s' hs => hs
  have done : ∀ {σ' : L2.St} {H' : Hp} {v : V} {u : Value}, Inv (cxOf CX0 P w K mg base N qual (defScope st) f cdv A outer s H E0) [] σ' H' s' → RelV v u → Q v H' → CE outer P w H s Q u s' :=
    fun J rv z => ⟨_, _, J.os, J.bare, J.base, J.hok, rv, z⟩
  cases fl with
  | ret u => obtain ⟨v, σ', H', J, rv, z⟩ := hs; exact done J rv z
  | next => obtain ⟨σ', H', J, z⟩ := hs; exact done (v := .non) (u := .none) J rfl z
  | brk => obtain ⟨_, _, _, z⟩ := hs; exact z.elim
  | cont => obtain ⟨_, _, _, z⟩ := hs; exact z.elim
end
section
variable {X : Cx} {k : Nat} {f : Addr} {fd : FuncData} {ps : List Str} {F : DCall} {x : Str} {p pos : Pos} {e : Expr} {es : List Expr} {m : MArg}
theorem run_fnG {pins : List (Addr × Obj)} {σ : L2.St} {H : Hp} {s : Shared} {Q : VK} {us : List Value} {vs : List V} (G : FnG X.prog X.w X.K X.mg X.base k f fd ps F) (hr : Room k X.A) (hgd : X.A.guards = some []) (hb : Binds X.K fd ps [])
    (hlen : ∀ ds S r, F ds S = some r → ds.length = ps.length) (I : Inv X pins σ H s) (r : Vals vs us) (h : rCM X.K F vs H Q) : wpAny (model X.prog X.w) X.A (call (.ref f) us) (EP X pins σ Q) X.xe s := by
  obtain ⟨S, μ, ds, d, S', st, ra, e, q⟩ := h
  have hl : vs.length = ps.length := by rw [ra.length]; exact hlen _ _ _ e
  have hb' : BindsTo s fd ⟨us, []⟩ (ps.zip us) := by
    have := hb s us I.kIn (by rw [List.append_nil, ← r.length]; exact hl)
    rwa [List.append_nil] at this
  refine wpAny_call (codeAny_mono (G.run X.A X.stack s H ⟨us, []⟩ us vs Q S μ ds d S' hr hgd I.env0 hb' r hl st ra e q) fun res s' hq => ?_)
  cases res with
  | error e => exact False.elim hq
  | ok fl =>
    cases fl with
    | ret u => exact I.after hq
    | next => exact False.elim hq
    | brk => exact False.elim hq
    | cont => exact False.elim hq
theorem me_call (G : FnG X.prog X.w X.K X.mg X.base k f fd ps F) (hr : Room k X.A) (hgd : X.A.guards = some []) (hg : Gl X x) (hm : X.mg x = some (.ref f)) (hk : PySem.W.keepIn X.K (.ref f) = true) (hb : Binds X.K fd ps [])
    (hlen : ∀ ds S r, F ds S = some r → ds.length = ps.length) (ha : MA X (e :: es) m) (hdb : (x == ("__debug__" : Str)) = false := by decide) (he : starEach (e :: es) X.env = (false, eval e X.env) :: starEach es X.env := by rfl)
    (hpl : (backTo pos (starEach es X.env)).any (·.1) = false := by rfl) : ME X (.Call (.Name x p) (e :: es) [] pos) (mCall F m) := by
  refine ⟨⟨fun pins s σ H Q I h => ?_⟩⟩
  refine wpAny_Call_Name_kw (ld_glob I hg hm (PySem.W.callWith_K (h₀ := X.base) I.ok.mod.kin hk (thn (ha.pa.run pos pins s σ H _ I (tE_call h)) fun us s1 h1 => ?_) he hpl) hdb)
  obtain ⟨vs, H1, I1, r, q⟩ := h1
  exact ⟨I1.kIn, run_fnG G hr hgd hb hlen I1 r q⟩
end
def LawOk (n : Nat) (F : DCall) : Prop := ∀ ns : List Int, ns.length ≤ n → ∃ S', F [.fl (ns.map D.int)] [] = some (.bl true, S')
theorem law_callG {P : Program} {w : World} {K : PySem.W.Frag} {mg mb : Str → Option Value} {k n : Nat} {fa a : Addr} {fd : FuncData} {x : Str} {F : DCall} {s₁ : Shared} {vs : List Value} {ns : List Int}
    (KX : K.In s₁.heap) (hns : s₁.heap.Ns mainGlobals mg) (hb : s₁.heap.Ns builtinsNs mb) (hbb : ∀ x : Str, x ≠ "__name__" → mb x = bootBuiltins x) (hlim : s₁.heap.NoLimit) (hg : s₁.gens = #[])
    (ha : s₁.heap.get? a = some { cls := .type "list", data := .seq vs.toArray }) (hi : IntsAre vs ns) (hl : ns.length ≤ n) (hn : n ≤ sizeLine) (hr : Room k callerA)
    (hF : ∀ base : Heap, K.In base → base.Ns mainGlobals mg → FnG P w K mg base k fa fd [x] F) (hbind : ∀ (s : Shared) (u : Value), BindsTo s fd ⟨[u], []⟩ [(x, u)]) (ok : LawOk n F) :
    codeAny (model P w) callerA (.call (.ref fa) ⟨[.ref a], []⟩) (fun r s' => r = .ok (.ret (.bool true)) ∧ OldK s₁.heap s'.heap ∧ s'.os = s₁.os ∧ AllBare s'.gens) s₁ := by
  have rv := vals_ints hi
  obtain ⟨S', hS'⟩ := ok ns hl
  have go : ∀ H : Hp, Only H → FzL K H a (ns.map V.int) → HOk P w H s₁.heap → (∀ b, H b ≠ none → b = a) → (H a ≠ none → K.lookup a = none) →
      codeAny (model P w) callerA (.call (.ref fa) ⟨[.ref a], []⟩) (fun r s' => r = .ok (.ret (.bool true)) ∧ OldK s₁.heap s'.heap ∧ s'.os = s₁.os ∧ AllBare s'.gens) s₁ := by
    intro H hO hS hok hA hK
    have isA : ∀ {b : Addr} {u : HO}, H b = some u → b = a := fun z => hA _ (by rw [z]; simp)
    have noDict : ∀ {b : Addr} {o : Obj} {es : Array DictEntry} {ep : Nat}, s₁.heap.get? b = some o → o.data = .dict es ep → H b = none := by
      intro b o es ep e d
      cases q : H b with
      | none => rfl
      | some u =>
        have z := isA q
        subst z
        rw [ha] at e
        cases e
        exact nomatch d
    have keepNs : ∀ {b : Addr} {m : Str → Option Value}, s₁.heap.Ns b m → (hidT s₁.heap H).Ns b m := fun ⟨o, es, ep, e, d, r⟩ => ⟨o, es, ep, hidT_get e (noDict e d), d, r⟩
    have hKb : K.In (hidT s₁.heap H) := fun b o e => hidT_get (KX b o e) (by
      cases q : H b with
      | none => rfl
      | some u =>
        have z := isA q
        subst z
        rw [hK (by rw [q]; simp)] at e
        cases e)
    have hM : Mod K mg (hidT s₁.heap H) := ⟨hKb, keepNs hns, ⟨mb, keepNs hb, hbb⟩, let ⟨mc, h1, h2⟩ := hlim; ⟨mc, keepNs h1, h2⟩⟩
    have e0 : Env0 P w K mg (hidT s₁.heap H) callerA [] s₁ H := ⟨rfl, hM, fun b o e => of_hidT e, Nat.le_of_eq (hidT_size _ _), trivial, fun b hb => absurd hb (List.not_mem_nil), hok, .of_eq hg⟩
    have st : StR K H ⟨[], []⟩ [] := ⟨rfl, fun i j b y z e1 => by simp at e1, fun i mo b e1 => by simp at e1, fun b hb => absurd hb List.not_mem_nil, fun i mo b e1 => by simp at e1⟩
    refine codeAny_mono ((hF _ hKb (keepNs hns)).run callerA [] s₁ H ⟨[.ref a], []⟩ [.ref a] [.ref a] (fun v _ => v = .bl true) _ _ _ _ _ hr rfl e0 (hbind s₁ (.ref a)) (.cons rfl .nil) rfl st (.cons (.fl hS RpA.ints) .nil) hS' (fun v H' μ' _ _ r => by cases r; rfl)) fun r s' h => ?_
    cases r with
    | error e => exact False.elim h
    | ok fl =>
      cases fl with
      | next => exact False.elim h
      | brk => exact False.elim h
      | cont => exact False.elim h
      | ret u =>
        obtain ⟨v, H', os, bare, un, hok', r', rfl⟩ := h
        obtain rfl : u = Value.bool true := r'
        refine ⟨rfl, OldK.of_keep fun b o e => ?_, os, bare⟩
        cases q : H b with
        | none => exact un.keep b o e q (List.not_mem_nil) (List.not_mem_nil)
        | some u =>
          rcases hO b with z | ⟨ob, xs, z⟩
          · rw [q] at z; cases z
          · obtain ⟨e1, _⟩ := hok b _ z
            obtain ⟨e2, _⟩ := hok' b _ (un.frzs b ob _ z)
            rw [e] at e1; cases e1
            exact e2
  cases hk : K.lookup a with
  | some o =>
    have e := KX a o hk
    rw [ha] at e
    cases e
    refine go (fun _ => none) (fun _ => .inl rfl) (.inr ⟨_, vs.toArray, _, hk, rfl, rfl, rfl, ?_, by simpa using rv⟩) (fun b u z => nomatch z) (fun b z => absurd rfl z) fun z => absurd rfl z
    rw [List.size_toArray, hi.length]; omega
  | none =>
    obtain ⟨H, h1, h2⟩ : ∃ H : Hp, H a = some (.frz { cls := .type "list", data := .seq vs.toArray } (.lst (ns.map V.int))) ∧ ∀ b, b ≠ a → H b = none :=
      ⟨fun b => if b = a then some (.frz { cls := .type "list", data := .seq vs.toArray } (.lst (ns.map V.int))) else none, if_pos rfl, fun b hb => if_neg hb⟩
    refine go H (fun b => ?_) (.inl ⟨_, h1⟩) (fun b u z => ?_) (fun b z => ?_) fun _ => hk
    · by_cases hb : b = a
      · rw [hb]; exact .inr ⟨_, _, h1⟩
      · exact .inl (h2 b hb)
    · by_cases hb : b = a
      · subst hb
        rw [h1] at z
        cases z
        exact ⟨ha, by rw [List.length_map]; omega, vs, _, rv, ha⟩
      · rw [h2 b hb] at z; cases z
    · by_cases hb : b = a
      · exact hb
      · exact absurd (h2 b hb) z
theorem walkG {l : PySem.W.OpenLaw} {n k : Nat} {q : Program} {loose : List Str} {XP : (Str → Option Value) → Heap → Prop} {YP : World → Heap → Prop} {d : DefRec} {K : Params → PySem.W.Frag} {F : DCall} {x : Str}
    (hn : l.most = some n) (hn2 : n ≤ sizeLine) (hdf : d.params.defaults = []) (hr : Room k callerA) (hY : ∀ (w : World) (h : Heap), YP w h → (K w.params).In h) (ok : LawOk n F)
    (hF : ∀ (w : World) (mg : Str → Option Value) (fa : Addr) (h : Heap), (K w.params).In h → h.Ns mainGlobals mg → mg d.name = some (.ref fa) →
      ∃ fd : FuncData, (∀ (s : Shared) (u : Value), BindsTo s fd ⟨[u], []⟩ [(x, u)]) ∧ ∀ base : Heap, (K w.params).In base → base.Ns mainGlobals mg → FnG l.prog w (K w.params) mg base k fa fd [x] F) :
    PySem.W.WalkO q loose XP YP l.row.toRowW d [] (fun f vs => PySem.call f vs) := by
  refine Att.attach_call hn hdf fun w s₀ s₁ mg mb fa o pm cd doc a vs ns G Y ho hd hcd hmg hobj hints hlen hg => ?_
  obtain ⟨fd, hb, hf⟩ := hF w mg fa _ (hY w _ Y) G.T.g hmg
  exact law_callG (hY w _ Y) G.T.g G.T.b G.T.builtins G.T.nolimit hg hobj hints hlen hn2 hr hf hb ok
end MS
namespace MS
open PySem PySem.Spec PyProof.Rows L2
def den (np n : Nat) (m : MStm) : DCall := fun ds S => if ds.length = np then (match m (startD n ds) S with
  | some (.rt d, _, S') => some (d, S')
  | some (.nx, _, S') => some (.non, S')
  | _ => none) else none
theorem den_does {np n : Nat} {m : MStm} : Does n m (den np n m) := fun ds S d S' e => by
  unfold den at e
  split at e
  · split at e
    · rename_i h; cases e; exact ⟨_, _, h, .inl rfl⟩
    · rename_i h; cases e; exact ⟨_, _, h, .inr ⟨rfl, rfl⟩⟩
    · cases e
  · cases e
theorem den_len {np n : Nat} {m : MStm} {ds : List D} {S : Store} {r : D × Store} (e : den np n m ds S = some r) : ds.length = np := by
  unfold den at e
  split at e
  · assumption
  · cases e
theorem boot_repr : bootBuiltins "repr" = some (.builtin "repr") := by decide +kernel
theorem boot_len : bootBuiltins "len" = some (.builtin "len") := by decide +kernel
theorem boot_min : bootBuiltins "min" = some (.builtin "min") := by decide +kernel
theorem boot_max : bootBuiltins "max" = some (.builtin "max") := by decide +kernel
theorem boot_int : bootBuiltins "int" = some (.type "int") := by decide +kernel
theorem boot_list : bootBuiltins "list" = some (.type "list") := by decide +kernel
theorem boot_tuple : bootBuiltins "tuple" = some (.type "tuple") := by decide +kernel
end MS
theorem MS.room80 {k : Nat} {A : PySem.Around} (r : L2.Room k A) : A.units + 80 < PySem.cLine := by have := r.un; omega
set_option Elab.async false
set_option linter.all false
set_option maxRecDepth 100000
set_option maxHeartbeats 4000000
namespace MS
open PySem PySem.Spec PyProof.Rows L2
mutual
def sml : PyData → Bool
  | .none => true
  | .bool _ => true
  | .int i => decide (i.natAbs < 10 ^ 40)
  | .list xs => smlAll xs
  | .tuple xs => smlAll xs
  | _ => false
def smlAll : List PyData → Bool
  | [] => true
  | x :: xs => sml x && smlAll xs
end
mutual
def wt : PyData → Nat
  | .list xs => wtAll xs + 3
  | .tuple xs => wtAll xs + 3
  | _ => 42
def wtAll : List PyData → Nat
  | [] => 0
  | x :: xs => wt x + 2 + wtAll xs
end
theorem log2_small {n : Nat} (h : n < 10 ^ 40) : n.log2 < 1920 := by
  by_cases h0 : n = 0
  · subst h0; decide
  · rw [Nat.log2_lt h0]
    exact Nat.lt_of_lt_of_le h (Nat.le_trans (by decide : 10 ^ 40 ≤ 2 ^ 200) (Nat.pow_le_pow_right (by decide) (by decide)))
theorem listText_le (ts : List Str) : (listText ts).length ≤ piled ts + 2 := by
  cases ts with
  | nil => decide
  | cons t r =>
    have h := textFrom_length_pos r 1 (("[" : Str) ++ (if (0 : Nat) > 0 then ", " else "" : String) ++ t) (Nat.succ_pos 0)
    show (textFrom 1 (("[" : Str) ++ (if (0 : Nat) > 0 then ", " else "" : String) ++ t) r ++ ("]" : String)).length ≤ _
    rw [strLen_append, h, strLen_append, strLen_append, piled_cons]
    have e1 : ((("[" : String) : Str)).length = 1 := rfl
    have e2 : ((("]" : String) : Str)).length = 1 := rfl
    have e3 : ((((if (0 : Nat) > 0 then ", " else "" : String)) : Str)).length = 0 := rfl
    rw [e1, e2, e3]
    omega
theorem tupleText_le (ts : List Str) : (tupleText ts).length ≤ piled ts + 3 := by
  unfold tupleText
  rw [strLen_append, strLen_append]
  have e1 : ((("(" : String) : Str)).length = 1 := rfl
  have e3 : (((if ts.length == 1 then ",)" else ")" : String) : Str)).length ≤ 2 := by split <;> decide
  rw [e1]
  cases ts with
  | nil =>
    have e2 : (Str.join ", " ([] : List Str)).length = 0 := rfl
    rw [e2, piled_nil]
    omega
  | cons t r =>
    have e2 := join_length_add (t :: r) (List.cons_ne_nil _ _)
    omega
mutual
theorem sml_shown : ∀ p : PyData, sml p = true → p.showable = true ∧ p.hasDict = false ∧ p.shown.length ≤ wt p
  | .none, _ => ⟨rfl, rfl, by decide⟩
  | .bool b, _ => ⟨rfl, rfl, by cases b <;> decide⟩
  | .int i, h => by
    have h' : i.natAbs < 10 ^ 40 := of_decide_eq_true h
    refine ⟨decide_eq_true (log2_small h'), rfl, ?_⟩
    have := int_text_length_le10 (a := i) (k := 40) (by decide) h'
    show ((toString i : String) : Str).length ≤ 42
    rw [PySem.ofString_length]
    omega
  | .list xs, h => by
    obtain ⟨h1, h2, h3⟩ := smlAll_shown xs h
    refine ⟨h1, h2, ?_⟩
    have := listText_le (PyData.shownAll xs)
    show (listText (PyData.shownAll xs)).length ≤ wtAll xs + 3
    omega
  | .tuple xs, h => by
    obtain ⟨h1, h2, h3⟩ := smlAll_shown xs h
    refine ⟨h1, h2, ?_⟩
    have := tupleText_le (PyData.shownAll xs)
    show (tupleText (PyData.shownAll xs)).length ≤ wtAll xs + 3
    omega
  | .str _, h => by cases h
  | .dict _, h => by cases h
theorem smlAll_shown : ∀ xs : List PyData, smlAll xs = true → PyData.showableAll xs = true ∧ PyData.hasDictAll xs = false ∧ piled (PyData.shownAll xs) ≤ wtAll xs
  | [], _ => ⟨rfl, rfl, Nat.le_refl _⟩
  | x :: xs, h => by
    have h : (sml x && smlAll xs) = true := h
    rw [Bool.and_eq_true] at h
    obtain ⟨h1, h2, h3⟩ := sml_shown x h.1
    obtain ⟨h4, h5, h6⟩ := smlAll_shown xs h.2
    refine ⟨?_, ?_, ?_⟩
    · show (x.showable && PyData.showableAll xs) = true
      rw [h1, h4]; rfl
    · show (x.hasDict || PyData.hasDictAll xs) = false
      rw [h2, h5]; rfl
    · show piled (x.shown :: PyData.shownAll xs) ≤ wt x + 2 + wtAll xs
      rw [piled_cons]
      omega
end
theorem okShow_of {p : PyData} (h : sml p = true) (hd : p.depth ≤ 64) (hw : wt p ≤ szl) : okShow p = true := by
  obtain ⟨h1, h2, h3⟩ := sml_shown p h
  unfold okShow
  rw [h1, h2]
  simp only [Bool.not_false, Bool.and_true, Bool.true_and, Bool.and_eq_true, decide_eq_true_eq]
  exact ⟨hd, Nat.le_trans h3 hw⟩
structure Keeps (p : Nat) (S S' : Store) : Prop where
  len : S.length ≤ S'.length
  at_ : ∀ n x, n ≠ p → S[n]? = some x → S'[n]? = some x
theorem lat_lst {S : Store} {n : Nat} {ds : List D} (h : S[n]? = some (.lst ds)) : lat S n = some ds := by unfold lat; rw [h]
theorem mat_lst {S : Store} {n : Nat} {ds : List D} (h : S[n]? = some (.lst ds)) : mat S n = some ds := by unfold mat; rw [h]
theorem get_app {S : Store} {l : Store} {n : Nat} {x : MO} (h : S[n]? = some x) : (S ++ l)[n]? = some x := by rw [List.getElem?_append_left (List.getElem?_eq_some_iff.mp h).1]; exact h
theorem get_new {S : Store} {x : MO} : (S ++ [x])[S.length]? = some x := List.getElem?_concat_length
theorem get_set {S : Store} {n : Nat} {x y : MO} (h : S[n]? = some x) : (S.set n y)[n]? = some y := List.getElem?_set_self (List.getElem?_eq_some_iff.mp h).1
theorem get_ne {S : Store} {n m : Nat} {y : MO} (h : n ≠ m) : (S.set n y)[m]? = S[m]? := List.getElem?_set_ne h
end MS
local macro_rules | `(tactic| walk_at "ms") => `(tactic| skip)
set_option Elab.async false
set_option linter.all false
set_option maxRecDepth 100000
set_option maxHeartbeats 4000000
namespace MS
open PySem PySem.Spec PyProof.Rows L2
section
variable {α : Type} {ρ : Ev} {S : Store} {Q : D → Store → Prop} {QB : Bool → Store → Prop} {QA : List D → Store → Prop} {QS : Fl → Ev → Store → Prop} {QE : Ev → Store → Prop} {QI : (List D × (Store → Bool)) → Store → Prop}
  {m m' : MExp} {a : MArg} {t u : MTst} {f : DOp2} {fc : DCall} {d : D} {s s' : MStm} {g : MTg} {gs : MTgs}
end
end MS
namespace MS
open PySem PySem.Spec PyProof.Rows L2
end MS
set_option Elab.async false
set_option linter.all false
set_option maxRecDepth 100000
set_option maxHeartbeats 4000000
namespace MS
open PySem PySem.Spec PyProof.Rows L2
section
variable {X : Cx} {e e2 : Expr} {p pos tpos : Pos} {elts : List Expr} {kk : Nat}
def zipD (ds es : List D) : List D := List.zipWith (fun a b => .tup [a, b]) ds es
end
section
variable {X : Cx} {x : Str} {p pos : Pos} {e : Expr} {es : List Expr} {m : MArg} {f : DCall} {id T : String}
def cGcd : DCall := fun ds S => match ds with
  | [.int a, .int b] => some (.int ((Nat.gcd a.natAbs b.natAbs : Nat) : Int), S)
  | _ => none
def intsOf : List D → Option (List Int)
  | [] => some []
  | .int i :: ds => (intsOf ds).map (i :: ·)
  | _ :: _ => none
theorem intsOf_map : ∀ {ns : List Int}, intsOf (ns.map D.int) = some ns
  | [] => rfl
  | n :: ns => by
    rw [List.map_cons]; unfold intsOf; rw [intsOf_map]; rfl
theorem intsOf_rp {K : PySem.W.Frag} {H : Hp} {μ : Mu} : ∀ {ds : List D} {vs : List V} {ns : List Int}, intsOf ds = some ns → RpA K H μ vs ds → vs = ns.map V.int
  | [], _, _, e, .nil => by cases e; rfl
  | .int i :: ds, _, _, e, .cons (.int _) r => by
    unfold intsOf at e
    obtain ⟨ns', e', rfl⟩ := Option.map_eq_some_iff.mp e
    rw [intsOf_rp e' r]; rfl
def cSum : DCall := fun ds S => match ds with
  | [d] => (latD S d).bind fun es => (intsOf es).map fun ns => (.int ns.sum, S)
  | _ => none
def narrow (i j : Int) : Bool := decide (i.natAbs.log2 + j.natAbs.log2 < 1000000)
def fMulW : DOp2
  | .int i, .int j, S => if narrow i j then some (.int (i * j), S) else none
  | .lr n, .int k, S => fMul (.lr n) (.int k) S
  | .lst n, .int k, S => fMul (.lst n) (.int k) S
  | .tup ds, .int k, S => if ds ≠ [] ∧ 1 ≤ k ∧ k ≤ 1000 ∧ ds.length ≤ 1000 then some (.tup (repD ds k), S) else none
  | _, _, _ => none
def fDivW := fIc (fun _ j => decide (0 < j) && decide (j.natAbs.log2 < 9000)) fun i j => i / j
theorem o_divW : OpR X (binaryOp .FloorDiv) (rM X.K fDivW) := op_fIc op_fdivW fun _ _ h => by
  obtain ⟨a, b⟩ := (Bool.and_eq_true ..).mp h
  exact ⟨of_decide_eq_true a, of_decide_eq_true b⟩
theorem log2_lt {i : Int} {k : Nat} (h : i.natAbs < 2 ^ k) (hk : 0 < k) : i.natAbs.log2 < k := by
  by_cases z : i.natAbs = 0
  · rw [z]; simpa using hk
  · exact (Nat.log2_lt z).mpr h
def wd (i : Int) : Prop := i.natAbs < 2 ^ 2000
end
end MS
set_option Elab.async false
set_option linter.all false
set_option maxRecDepth 100000
set_option maxHeartbeats 4000000
set_option exponentiation.threshold 3000
namespace MS
open PySem PySem.Spec PyProof.Rows L2
def tyD : D → String
  | .non => "NoneType"
  | .bl _ => "bool"
  | .int _ => "int"
  | .str _ => "str"
  | .tup _ => "tuple"
  | .lr _ => "list"
  | .lst _ => "list"
  | .fl _ => "list"
  | .dk _ _ => "dict"
  | .dt _ _ => "dict"
  | .ins _ _ _ => "object"
  | .fn _ => "function"
def okTy (S : Store) : D → Bool
  | .lr n => (lat S n).isSome
  | .ins _ _ _ => false
  | .fn _ => false
  | _ => true
def mIsi (m : MExp) (T : String) : MExp := fun ρ S => (m ρ S).bind fun p => if okTy p.2 p.1 = true then (kitB (tyD p.1) T).map fun b => (.bl b, p.2) else none
section
variable {X : Cx} {e : Expr} {p q pos : Pos} {m : MExp}
end
def blsOf : List D → Option (List Bool)
  | [] => some []
  | .bl b :: ds => (blsOf ds).map (b :: ·)
  | _ :: _ => none
theorem blsOf_map : ∀ {bs : List Bool}, blsOf (bs.map D.bl) = some bs
  | [] => rfl
  | b :: bs => by rw [List.map_cons]; unfold blsOf; rw [blsOf_map]; rfl
theorem blsOf_rp {K : PySem.W.Frag} {H : Hp} {μ : Mu} : ∀ {ds : List D} {vs : List V} {bs : List Bool}, blsOf ds = some bs → RpA K H μ vs ds → vs = bs.map V.bl
  | [], _, _, e, .nil => by cases e; rfl
  | .bl b :: ds, _, _, e, .cons (.bl _) r => by
    unfold blsOf at e
    obtain ⟨bs', e', rfl⟩ := Option.map_eq_some_iff.mp e
    rw [blsOf_rp e' r]; rfl
def cAll : DCall := fun ds S => match ds with
  | [d] => (latD S d).bind fun es => (blsOf es).map fun bs => (.bl (bs.all id), S)
  | _ => none
theorem c_all {X : Cx} (hc : X.calm = true) : CallR X (.builtin "all") (rCM X.K cAll) := CallR.imp (cr_all hc) fun vs H Q ⟨S, μ, ds, d, S', s, r, e, q⟩ => by
  unfold cAll at e
  split at e
  · obtain ⟨es, e1, e⟩ := Option.bind_eq_some_iff.mp e
    obtain ⟨bs, e2, e⟩ := Option.map_eq_some_iff.mp e
    cases e
    match vs, r with
    | _, .cons r1 .nil =>
      obtain ⟨a, ws, rfl, h1, h2⟩ := s.latD e1 r1
      rw [blsOf_rp e2 h2] at h1
      exact ⟨a, bs, rfl, h1, q.id s (.bl _)⟩
  · cases e
theorem boot_all : bootBuiltins "all" = some (.builtin "all") := by decide +kernel
mutual
def smw : PyData → Bool
  | .none => true
  | .bool _ => true
  | .int i => decide (i.natAbs < 2 ^ 1910)
  | .list xs => smwAll xs
  | .tuple xs => smwAll xs
  | _ => false
def smwAll : List PyData → Bool
  | [] => true
  | x :: xs => smw x && smwAll xs
end
mutual
def wtw : PyData → Nat
  | .list xs => wtwAll xs + 3
  | .tuple xs => wtwAll xs + 3
  | _ => 642
def wtwAll : List PyData → Nat
  | [] => 0
  | x :: xs => wtw x + 2 + wtwAll xs
end
end MS
set_option Elab.async false
set_option linter.all false
set_option maxRecDepth 100000
set_option maxHeartbeats 4000000
namespace MS
open PySem PySem.Spec PyProof.Rows L2
def popD (S : Store) (n : Nat) (i : Int) : Option (D × Store) := (mat S n).bind fun ds => if ds.length ≤ szl then (L2.ixN ds.length i).bind fun k => (ds[k]?).map fun y => (y, S.set n (.lst (ds.eraseIdx k))) else none
def mPop (m : MExp) (a : MArg) : MExp := fun ρ S => (m ρ S).bind fun p => match p.1 with
  | .lr n => (mat p.2 n).bind fun _ => (a ρ p.2).bind fun q => match q.1 with
    | [.int i] => popD q.2 n i
    | _ => none
  | _ => none
section
variable {X : Cx} {e : Expr} {es : List Expr} {m : MArg}
end
section
variable {ρ : Ev} {S : Store} {Q : D → Store → Prop} {m : MExp} {a : MArg}
end
end MS
set_option Elab.async false
set_option linter.all false
set_option maxRecDepth 100000
set_option maxHeartbeats 4000000
namespace MS
open PySem PySem.Spec PyProof.Rows L2
def keyOf : D → Option Key
  | .int i => some (.inl i)
  | .str x => some (.inr x)
  | _ => none
def keysOf : List D → Option (List Key)
  | [] => some []
  | d :: ds => (keyOf d).bind fun k => (keysOf ds).map fun ks => k :: ks
section
variable {κ : Type} [DecidableEq κ]
def valD (kvs : List (κ × D)) (k : κ) : Option D := (kvs.find? fun kv => decide (kv.1 = k)).map (·.2)
def putD (kvs : List (κ × D)) (k : κ) (d : D) : List (κ × D) :=
  if (kvs.map (·.1)).contains k then kvs.map (fun kv => if kv.1 = k then (kv.1, d) else kv) else kvs ++ [(k, d)]
theorem valD_cons {p : κ × D} {r : List (κ × D)} {k : κ} : valD (p :: r) k = if p.1 = k then some p.2 else valD r k := by
  unfold valD
  rw [List.find?_cons]
  by_cases h : p.1 = k
  · rw [if_pos h, decide_eq_true h]; rfl
  · rw [if_neg h, decide_eq_false h]
end
section
variable {K : PySem.W.Frag} {H H' : Hp} {μ : Mu} {κ : Type} [DecidableEq κ]
theorem rp_key {d : D} {v : V} {k : Key} (e : keyOf d = some k) (r : Rp K H μ v d) : v = kV k := by
  cases r <;> cases e <;> rfl
theorem rp_keys : ∀ {ds : List D} {vs : List V} {ks : List Key}, keysOf ds = some ks → RpA K H μ vs ds → vs = ks.map kV
  | [], _, _, e, r => by cases e; cases r; rfl
  | d :: ds, _, _, e, .cons r1 r2 => by
    obtain ⟨k, e1, e2⟩ := Option.bind_eq_some_iff.mp (show ((keyOf d).bind fun k => (keysOf ds).map fun ks => k :: ks) = _ from e)
    obtain ⟨ks, e3, e4⟩ := Option.map_eq_some_iff.mp e2
    subst e4
    rw [rp_key e1 r1, rp_keys e3 r2]
    rfl
def keysT (ds : List D) : Option (List Key) := match ds with
  | [.str _] => none
  | ds => keysOf ds
theorem keysT_own {a : Addr} {ds : List D} {vs : List V} {ks : List Key} (e : keysT ds = some ks) (h : OwnT K H a vs) (r : RpA K H μ vs ds) : H a = some (.tup (ks.map kV)) := by
  unfold keysT at e
  split at e
  · cases e
  · rename_i hne
    have e2 := rp_keys e r
    rcases h with h | ⟨⟨x, rfl⟩, _⟩
    · rw [← e2]; exact h
    · cases r with
      | cons r1 r2 =>
        cases r2
        cases r1
        exact absurd rfl (hne x)
theorem RpK.uncons {p : κ × V} {kws : List (κ × V)} {kvs : List (κ × D)} (h : RpK K H μ (p :: kws) kvs) : ∃ q kvs', kvs = q :: kvs' ∧ p.1 = q.1 ∧ Rp K H μ p.2 q.2 ∧ RpK K H μ kws kvs' := by
  obtain ⟨h1, h2⟩ := h
  cases kvs with
  | nil => cases h1
  | cons q kvs =>
    rw [List.map_cons, List.map_cons] at h1 h2
    cases h2 with
    | cons r1 r2 =>
      rw [List.cons.injEq] at h1
      exact ⟨q, kvs, rfl, h1.1, r1, h1.2, r2⟩
theorem RpK.val {k : κ} : ∀ {kws : List (κ × V)} {kvs : List (κ × D)}, RpK K H μ kws kvs → (valD kvs k = none ∧ valV kws k = none) ∨ ∃ d v, valD kvs k = some d ∧ valV kws k = some v ∧ Rp K H μ v d
  | [], kvs, h => by
    cases kvs with
    | nil => exact .inl ⟨rfl, rfl⟩
    | cons q kvs => cases h.1
  | p :: kws, kvs, h => by
    obtain ⟨q, kvs', rfl, e, r, h'⟩ := h.uncons
    rw [valD_cons]
    by_cases hk : p.1 = k
    · rw [if_pos (e ▸ hk), valV_pos hk]
      exact .inr ⟨_, _, rfl, rfl, r⟩
    · rw [if_neg (e ▸ hk), valV_neg hk]
      exact RpK.val h'
theorem RpA.mapSnd {k : κ} {v : V} {d : D} (r : Rp K H μ v d) : ∀ {kws : List (κ × V)} {kvs : List (κ × D)}, RpK K H μ kws kvs →
    RpK K H μ (kws.map fun kv => if kv.1 = k then (kv.1, v) else kv) (kvs.map fun kv => if kv.1 = k then (kv.1, d) else kv)
  | [], kvs, h => by
    cases kvs with
    | nil => exact h
    | cons q kvs => cases h.1
  | p :: kws, kvs, h => by
    obtain ⟨q, kvs', rfl, e, r', h'⟩ := h.uncons
    obtain ⟨i1, i2⟩ := RpA.mapSnd r h'
    rw [List.map_cons, List.map_cons]
    by_cases hk : p.1 = k
    · rw [if_pos hk, if_pos (e ▸ hk)]
      refine ⟨?_, ?_⟩
      · rw [List.map_cons, List.map_cons, i1]; simp only [e]
      · rw [List.map_cons, List.map_cons]; exact .cons r i2
    · rw [if_neg hk, if_neg (e ▸ hk)]
      refine ⟨?_, ?_⟩
      · rw [List.map_cons, List.map_cons, i1, e]
      · rw [List.map_cons, List.map_cons]; exact .cons r' i2
theorem any_keys {k : κ} : ∀ kws : List (κ × V), (kws.any fun kv => decide (kv.1 = k)) = (kws.map (·.1)).contains k
  | [] => rfl
  | p :: kws => by
    rw [List.any_cons, List.map_cons, List.contains_cons, any_keys kws]
    congr 1
    by_cases h : p.1 = k
    · rw [decide_eq_true h, h, beq_self_eq_true]
    · rw [decide_eq_false h]
      exact (beq_eq_false_iff_ne.mpr fun z => h z.symm).symm
theorem RpK.put {k : κ} {v : V} {d : D} {kws : List (κ × V)} {kvs : List (κ × D)} (h : RpK K H μ kws kvs) (r : Rp K H μ v d) : RpK K H μ (putK kws k v) (putD kvs k d) := by
  unfold putK putD
  rw [any_keys, h.1]
  split
  · exact RpA.mapSnd r h
  · obtain ⟨h1, h2⟩ := h
    refine ⟨?_, ?_⟩
    · rw [List.map_append, List.map_append, h1]; rfl
    · rw [List.map_append, List.map_append]; exact h2.append (.cons r .nil)
theorem RpK.len {kws : List (κ × V)} {kvs : List (κ × D)} (h : RpK K H μ kws kvs) : kws.length = kvs.length := by
  have := h.2.length
  rwa [List.length_map, List.length_map] at this
end
def dget (S : Store) (n : Nat) (y : D) : Option (Option D) := match S[n]? with
  | some (.dk kvs) => (keyOf y).map fun k => valD kvs k
  | some (.dt kvs) => match y with
    | .tup ds => (keysT ds).map fun ks => valD kvs ks
    | _ => none
  | _ => none
def dput (S : Store) (n : Nat) (y d : D) : Option Store := match S[n]? with
  | some (.dk kvs) => if kvs.length < szl then (keyOf y).map fun k => S.set n (.dk (putD kvs k d)) else none
  | some (.dt kvs) => match y with
    | .tup ds => if kvs.length < szl then (keysT ds).map fun ks => S.set n (.dt (putD kvs ks d)) else none
    | _ => none
  | _ => none
section
variable {K : PySem.W.Frag} {H : Hp} {μ : Mu} {S : Store}
theorem StR.dget {n : Nat} {x y : V} {dy : D} {r : Option D} (s : StR K H μ S) (e : MS.dget S n dy = some r) (rx : Rp K H μ x (.lr n)) (ry : Rp K H μ y dy) :
    ∃ a o, x = .ref a ∧ DGet H a y o ∧ ((r = none ∧ o = none) ∨ ∃ d v, r = some d ∧ o = some v ∧ Rp K H μ v d) := by
  unfold MS.dget at e
  split at e
  · rename_i kvs h
    obtain ⟨k, e1, e2⟩ := Option.map_eq_some_iff.mp e
    obtain ⟨a, q1, kws, h1, h2⟩ := s.get h
    cases rx with
    | lr hx =>
    rw [hx] at q1; cases q1
    rw [rp_key e1 ry]
    refine ⟨_, _, rfl, DGet.k h1, ?_⟩
    rcases RpK.val (k := k) h2 with ⟨q2, q3⟩ | ⟨d, v, q2, q3, q4⟩
    · exact .inl ⟨by rw [← e2, q2], q3⟩
    · exact .inr ⟨d, v, by rw [← e2, q2], q3, q4⟩
  · rename_i kvs h
    split at e
    · obtain ⟨ks, e1, e2⟩ := Option.map_eq_some_iff.mp e
      obtain ⟨a, q1, kws, h1, h2⟩ := s.get h
      cases rx with
      | lr hx =>
      rw [hx] at q1; cases q1
      cases ry with
      | tup hy ry =>
      have hy := keysT_own e1 hy ry
      refine ⟨_, _, rfl, DGet.t h1 hy, ?_⟩
      rcases RpK.val (k := ks) h2 with ⟨q2, q3⟩ | ⟨d, v, q2, q3, q4⟩
      · exact .inl ⟨by rw [← e2, q2], q3⟩
      · exact .inr ⟨d, v, by rw [← e2, q2], q3, q4⟩
    · cases e
  · cases e
theorem StR.dput {n : Nat} {x y v : V} {dy d : D} {S' : Store} (s : StR K H μ S) (e : MS.dput S n dy d = some S') (rx : Rp K H μ x (.lr n)) (ry : Rp K H μ y dy) (rv : Rp K H μ v d) :
    ∃ a H', x = .ref a ∧ DPut H a y v H' ∧ Grow H H' μ μ ∧ StR K H' μ S' := by
  unfold MS.dput at e
  split at e
  · rename_i kvs h
    split at e
    · rename_i hz
      obtain ⟨k, e1, e2⟩ := Option.map_eq_some_iff.mp e
      subst e2
      obtain ⟨a, q1, kws, h1, h2⟩ := s.get h
      cases rx with
      | lr hx =>
      rw [hx] at q1; cases q1
      rw [rp_key e1 ry]
      have g : Grow H (upd H a (.dK (putK kws k v))) μ μ := .wrS s h rfl hx
      refine ⟨_, _, rfl, DPut.k h1 (by rw [h2.len]; exact szl_lt hz), g, ?_⟩
      exact s.wrM h rfl hx ⟨_, upd_same, (h2.put rv).grow g⟩
    · cases e
  · rename_i kvs h
    split at e
    · split at e
      · rename_i hz
        obtain ⟨ks, e1, e2⟩ := Option.map_eq_some_iff.mp e
        subst e2
        obtain ⟨a, q1, kws, h1, h2⟩ := s.get h
        cases rx with
        | lr hx =>
        rw [hx] at q1; cases q1
        cases ry with
        | tup hy ry =>
        have hy := keysT_own e1 hy ry
        have g : Grow H (upd H a (.dT (putK kws ks v))) μ μ := .wrS s h rfl hx
        refine ⟨_, _, rfl, DPut.t h1 hy (by rw [h2.len]; exact szl_lt hz), g, ?_⟩
        exact s.wrM h rfl hx ⟨_, upd_same, (h2.put rv).grow g⟩
      · cases e
    · cases e
  · cases e
end
def isDict (S : Store) : D → Bool
  | .lr n => match S[n]? with
    | some (.dk _) => true
    | some (.dt _) => true
    | _ => false
  | _ => false
def fIxD : DOp2 := fun x y S => if isDict S x = true then (match x with
  | .lr n => (dget S n y).bind fun r => r.map fun d => (d, S)
  | _ => none) else fIx x y S
def fInD (b : Bool) : DOp2 := fun y x S => if isDict S x = true then (match x with
  | .lr n => (dget S n y).map fun r => (.bl (if b then !r.isSome else r.isSome), S)
  | _ => none) else fIn b y x S
def mDNewK : MExp := fun _ S => some (.lr S.length, S ++ [.dk []])
def mgDict (mo mi : MExp) : MTg := fun d ρ S => (mo ρ S).bind fun p => (mi ρ p.2).bind fun q => match p.1 with
  | .lr n => (dput q.2 n q.1 d).map fun S' => (ρ, S')
  | _ => none
def rSetK : V → V → V → Hp → (Hp → Prop) → Prop := fun o i v H Q => ∃ a H', o = .ref a ∧ DPut H a i v H' ∧ Q H'
section
variable {X : Cx} {a b : Expr} {ma mb : MExp} {pos : Pos}
theorem me_ixD (hu : X.A.units + 1 < cLine) (ha : ME X a ma) (hb : ME X b mb) (hs : PlainIx b) (hs2 : NoSl b) : ME X (.Subscript a b pos) (mBin fIxD ma mb) := by
  refine ⟨⟨fun pins s σ H Q I h => ?_⟩⟩
  obtain ⟨ρ, S, μ, d, S', st, e, q⟩ := h
  obtain ⟨⟨d1, S1⟩, e1, e⟩ := Option.bind_eq_some_iff.mp e
  obtain ⟨⟨d2, S2⟩, e2, e⟩ := Option.bind_eq_some_iff.mp e
  have e : fIxD d1 d2 S2 = some (d, S') := e
  unfold fIxD at e
  split at e
  · cases d1 with
    | lr n =>
      obtain ⟨r, e3, e4⟩ := Option.bind_eq_some_iff.mp (show ((dget S2 n d2).bind fun r => r.map fun d => (d, S2)) = some (d, S') from e)
      obtain ⟨d', e5, e6⟩ := Option.map_eq_some_iff.mp e4
      cases e6
      refine (pe_dget hu ha.pe hb.pe hs2).run pins s σ H Q I ⟨ρ, S, μ, _, S1, st, e1, fun x H1 μ1 g1 s1 r1 => ⟨ρ, S1, μ1, _, _, st.grow g1 s1, e2, fun y H2 μ2 g2 s2 r2 => ?_⟩⟩
      obtain ⟨a', o, rfl, hg, hr⟩ := s2.dget e3 (r1.grow g2) r2
      rcases hr with ⟨z, _⟩ | ⟨dd, v, z, rfl, rv⟩
      · rw [e5] at z; cases z
      · rw [e5] at z; cases z
        exact ⟨a', v, rfl, hg, q v H2 μ2 (g1.trans g2) s2 rv⟩
    | _ => cases e
  · refine (me_ix ha hb hs).pe.run pins s σ H Q I ⟨ρ, S, μ, d, S', st, ?_, q⟩
    unfold mBin
    rw [e1]
    show ((mb ρ S1).bind fun q => fIx d1 q.1 q.2) = _
    rw [e2]
    exact e
theorem o_notInD (hu : X.A.units + 1 < cLine) : OpR X (compareOp .NotIn) (rM X.K (fInD true)) := by
  intro pins s σ H y x u w Q I ry rx ⟨S, μ, dy, dx, d, S', st, py, px, e, q⟩
  unfold fInD at e
  split at e
  · cases dx with
    | lr n =>
      obtain ⟨r, e3, e4⟩ := Option.map_eq_some_iff.mp (show ((dget S n dy).map fun r => (D.bl (if true then !r.isSome else r.isSome), S)) = some (d, S') from e)
      cases e4
      obtain ⟨a', o, rfl, hg, hr⟩ := st.dget e3 px py
      cases rx
      refine d_notIn hu I hg ry fun s3 I3 => ?_
      have : o.isSome = r.isSome := by
        rcases hr with ⟨rfl, rfl⟩ | ⟨dd, v, rfl, rfl, _⟩ <;> rfl
      rw [this]
      exact ⟨.bl (!r.isSome), H, I3, rfl, q.id st (.bl _)⟩
    | _ => cases e
  · exact o_notIn pins s σ H y x u w Q I ry rx ⟨S, μ, dy, dx, d, S', st, py, px, e, q⟩
theorem set_dict (hu : X.A.units + 1 < cLine) : PSet X rSetK := by
  intro pins s σ H o i v ov iv u Q I ro ri rv ⟨a, H', ex, g, q⟩
  subst ex
  cases ro
  exact d_setItem hu I g ri rv fun s4 I4 => ⟨H', I4, q⟩
theorem mg_dict {o i : Expr} {mo mi : MExp} (hu : X.A.units + 1 < cLine) (ho : ME X o mo) (hi : ME X i mi)
    (ha : ∀ v, assign (.Subscript o i pos) X.env v = (do
      let ov ← holding [v] (eval o X.env)
      let iv ← holding [v, ov] (eval i X.env)
      standAt pos
      holding [v, ov, iv] (setItem ov iv v)
      release [v, ov, iv] []) := by intro _; rfl) : MG X (.Subscript o i pos) (mgDict mo mi) :=
  ⟨PG.imp (pg_sub ho.pe hi.pe (set_dict hu) ha) fun v σ H Q ⟨d, ρ, S, μ, ρ', S', s, rr, e, q⟩ => by
    obtain ⟨⟨d1, S1⟩, e1, e⟩ := Option.bind_eq_some_iff.mp e
    obtain ⟨⟨d2, S2⟩, e2, e⟩ := Option.bind_eq_some_iff.mp e
    refine ⟨ρ, S, μ, d1, S1, s, e1, fun v1 H1 μ1 g1 s1 r1 => ⟨ρ, S1, μ1, d2, S2, s.grow g1 s1, e2, fun v2 H2 μ2 g2 s2 r2 => ?_⟩⟩
    cases d1 with
    | lr n =>
      obtain ⟨S3, e3, e4⟩ := Option.map_eq_some_iff.mp (show ((dput S2 n d2 d).map fun S' => (ρ, S')) = some (ρ', S') from e)
      cases e4
      have g12 := g1.trans g2
      obtain ⟨a', H3, rfl, hp, g3, s3⟩ := s2.dput e3 (r1.grow g2) r2 (rr.grow g12)
      exact ⟨a', H3, rfl, hp, q σ H3 μ2 (g12.trans g3) ((s.grow g12 s2).grow g3 s3)⟩
    | _ => cases e⟩
end
end MS
set_option Elab.async false
set_option linter.all false
set_option maxRecDepth 100000
set_option maxHeartbeats 4000000
set_option exponentiation.threshold 9000
namespace MS
open PySem PySem.Spec PyProof.Rows L2
def maxI : List Int → Option Int
  | [] => none
  | [x] => some x
  | x :: xs => (maxI xs).map fun m => if m > x then m else x
def cMaxA : DCall := fun ds S => match ds with
  | [d] => (MS.items S d).bind fun es => (intsOf es).bind fun ns => (maxI ns).map fun m => (.int m, S)
  | _ => cMax ds S
section
variable {prog : Program} {w : World} {A : Around} {E : Value → Shared → Prop} {s : Shared} {l : Addr}
end
section
variable {X : Cx} {pins : List (Addr × Obj)} {σ : L2.St} {H : Hp} {s : Shared}
end
end MS
set_option Elab.async false
set_option linter.all false
set_option maxRecDepth 100000
set_option maxHeartbeats 4000000
namespace MS
open PySem PySem.Spec PyProof.Rows L2
def insU (x : Int) : List Int → List Int
  | [] => [x]
  | y :: l => if x < y then x :: y :: l else if x = y then y :: l else y :: insU x l
def sortU (ns : List Int) : List Int := ns.foldr insU []
section
variable {X : Cx}
def mSortSet (m : MArg) : MExp := fun ρ S => (m ρ S).bind fun p => match p.1 with
  | [.tup ds] => (intsOf ds).bind fun ns => if ns.length < 64 then some (.lr p.2.length, p.2 ++ [.lst ((sortU ns).map D.int)]) else none
  | _ => none
end
section
variable {X : Cx}
end
def D.isNon : D → Bool
  | .non => true
  | _ => false
def fIs : DOp2
  | d, .non, S => some (.bl d.isNon, S)
  | _, _, _ => none
def fIsNot : DOp2
  | d, .non, S => some (.bl (!d.isNon), S)
  | _, _, _ => none
theorem rp_non {K : PySem.W.Frag} {H : Hp} {μ : Mu} {v : V} {d : D} (r : Rp K H μ v d) : decide (v = .non) = d.isNon := by
  cases r <;> first | rfl | exact decide_eq_false (by intro z; cases z)
section
variable {X : Cx}
theorem o_isNotN : OpR X (compareOp .IsNot) (rM X.K fIsNot) := OpR.imp op_notN fun x y H Q ⟨S, μ, dx, dy, d, S', s, rx, ry, e, q⟩ => by
  unfold fIsNot at e
  split at e
  · cases e; cases ry
    refine ⟨rfl, ?_⟩
    rw [rp_non rx]
    exact q.id s (.bl _)
  · cases e
end
end MS
set_option Elab.async false
set_option linter.all false
set_option maxRecDepth 100000
set_option maxHeartbeats 4000000
namespace MS
open PySem PySem.Spec PyProof.Rows L2
section
variable {ρ : Ev} {S : Store} {Q : D → Store → Prop} {QS : Fl → Ev → Store → Prop} {QE : Ev → Store → Prop} {m mo mi : MExp} {a : MArg}
end
end MS
set_option Elab.async false
set_option linter.all false
set_option maxRecDepth 100000
set_option maxHeartbeats 4000000
namespace MS
open PySem PySem.Spec PyProof.Rows L2
section
variable {X : Cx}
end
end MS
set_option Elab.async false
set_option linter.all false
set_option maxRecDepth 100000
set_option maxHeartbeats 4000000
namespace MS
open PySem PySem.Spec PyProof.Rows L2
section
variable {K : PySem.W.Frag} {H H' : Hp} {μ : Mu}
end
def scL (ok : Store → Bool) (g : MTg) (t : MTst) (e : MExp) (ρw : Ev) : List D → List Int → Store → Option (List Int × Store)
  | [], acc, S => if ok S then some (acc, S) else none
  | x :: r, acc, S => if ok S then (g x ρw S).bind fun p => (t p.1 p.2).bind fun k => if k.1 then (e p.1 k.2).bind fun y => match y.1 with
      | .int z => if acc.length < 60 then scL ok g t e ρw r (acc ++ [z]) y.2 else none
      | _ => none
    else scL ok g t e ρw r acc k.2 else none
def mSortComp (i : MItr) (g : MTg) (t : MTst) (e : MExp) (vs : List Nat) : MExp := fun ρ S => (i ρ S).bind fun p =>
  (scL p.1.2 g t e (wipeD ρ vs) p.1.1 [] p.2).bind fun r => some (.lr r.2.length, r.2 ++ [.lst ((sortU r.1).map D.int)])
section
variable {X : Cx} {elt tg iter : Expr} {ifs : List Expr} {scope : Scope} {own : List (Str × Nat)} {pos q : Pos} {i : MItr} {g : MTg} {t : MTst} {e : MExp} {is : List Nat}
end
end MS
set_option Elab.async false
set_option linter.all false
set_option maxRecDepth 100000
set_option maxHeartbeats 4000000
namespace MS
open PySem PySem.Spec PyProof.Rows L2
def insI (x : Int) : List Int → List Int
  | [] => [x]
  | y :: l => if x ≤ y then x :: y :: l else y :: insI x l
def sortI (ns : List Int) : List Int := ns.foldr insI []
theorem insI_perm {x : Int} : ∀ {l : List Int}, (insI x l).Perm (x :: l)
  | [] => .refl _
  | y :: l => by
    unfold insI
    split
    · exact .refl _
    · exact (List.Perm.cons y insI_perm).trans (.swap x y l)
theorem sortI_perm : ∀ (ns : List Int), (sortI ns).Perm ns
  | [] => .refl _
  | x :: ns => insI_perm.trans ((sortI_perm ns).cons x)
theorem insI_sorted {x : Int} : ∀ {l : List Int}, l.Pairwise (· ≤ ·) → (insI x l).Pairwise (· ≤ ·)
  | [], _ => by simp [insI]
  | y :: l, h => by
    obtain ⟨h1, h2⟩ := List.pairwise_cons.mp h
    unfold insI
    split
    · rename_i hx
      refine List.pairwise_cons.mpr ⟨fun z hz => ?_, h⟩
      rcases List.mem_cons.mp hz with rfl | hz
      · exact hx
      · exact Int.le_trans hx (h1 z hz)
    · refine List.pairwise_cons.mpr ⟨fun z hz => ?_, insI_sorted h2⟩
      rcases List.mem_cons.mp (insI_perm.mem_iff.mp hz) with rfl | hz
      · omega
      · exact h1 z hz
theorem sortI_sorted : ∀ (ns : List Int), (sortI ns).Pairwise (· ≤ ·)
  | [] => .nil
  | x :: ns => insI_sorted (sortI_sorted ns)
theorem sorted_one : ∀ {l m : List Int}, l.Perm m → l.Pairwise (· ≤ ·) → m.Pairwise (· ≤ ·) → l = m
  | [], m, h, _, _ => (List.Perm.nil_eq h)
  | a :: l, [], h, _, _ => absurd h.length_eq (by simp)
  | a :: l, b :: m, h, hl, hm => by
    obtain ⟨l1, l2⟩ := List.pairwise_cons.mp hl
    obtain ⟨m1, m2⟩ := List.pairwise_cons.mp hm
    have e : a = b := by
      rcases List.mem_cons.mp (h.mem_iff.mp List.mem_cons_self) with e | ha
      · exact e
      · rcases List.mem_cons.mp (h.mem_iff.mpr List.mem_cons_self) with e | hb
        · exact e.symm
        · have := l1 b hb
          have := m1 a ha
          omega
    subst e
    rw [sorted_one ((List.perm_cons a).mp h) l2 m2]
def cSorted : DCall := fun ds S => match ds with
  | [d] => (latD S d).bind fun es => (intsOf es).map fun ns => (.lr S.length, S ++ [.lst ((sortI ns).map D.int)])
  | _ => none
theorem boot_sorted : bootBuiltins "sorted" = some (.builtin "sorted") := by decide +kernel
end MS
set_option Elab.async false
set_option linter.all false
set_option maxRecDepth 100000
set_option maxHeartbeats 4000000
namespace MS
open PySem PySem.Spec PyProof.Rows L2
section
variable {X : Cx}
end
section
variable {X : Cx} {kx vx tg iter : Expr} {ifs : List Expr} {scope : Scope} {own : List (Str × Nat)} {pos : Pos} {i : MItr} {g : MTg} {t : MTst} {k v : MExp} {is : List Nat}
end
end MS
set_option Elab.async false
set_option linter.all false
set_option maxRecDepth 100000
set_option maxHeartbeats 4000000
namespace MS
open PySem PySem.Spec PyProof.Rows L2
end MS
set_option Elab.async false
set_option linter.all false
set_option maxRecDepth 100000
set_option maxHeartbeats 4000000
namespace MS
open PySem PySem.Spec PyProof.Rows L2
section
variable {X : Cx} {e : Expr} {es : List Expr} {m : MArg}
end
end MS
set_option Elab.async false
set_option linter.all false
set_option maxRecDepth 100000
set_option maxHeartbeats 4000000
namespace MS
open PySem PySem.Spec PyProof.Rows L2
def lexI : List Int → List Int → Bool
  | [], [] => false
  | [], _ :: _ => true
  | _ :: _, [] => false
  | a :: l, b :: m => if a = b then lexI l m else decide (a < b)
end MS
set_option Elab.async false
set_option linter.all false
set_option maxRecDepth 100000
set_option maxHeartbeats 4000000
namespace MS
open PySem PySem.Spec PyProof.Rows L2
end MS
set_option Elab.async false
set_option linter.all false
set_option maxRecDepth 100000
set_option maxHeartbeats 4000000
namespace MS
open PySem PySem.Spec PyProof.Rows L2
def tupI (ns : List Int) : D := .tup (ns.map D.int)
def tupsOf : List D → Option (List (List Int))
  | [] => some []
  | .tup ds :: r => (intsOf ds).bind fun ns => if ns.isEmpty then none else (tupsOf r).map fun l => ns :: l
  | _ :: _ => none
def insT (x : List Int) : List (List Int) → List (List Int)
  | [] => [x]
  | y :: l => if lexI y x = false then x :: y :: l else y :: insT x l
def sortT (l : List (List Int)) : List (List Int) := l.foldr insT []
def cSortedT : DCall := fun ds S => match ds with
  | [d] => (latD S d).bind fun es => (tupsOf es).map fun l => (.lr S.length, S ++ [.lst ((sortT l).map tupI)])
  | _ => none
def vInts : List V → List Int
  | [] => []
  | .int i :: r => i :: vInts r
  | _ :: r => vInts r
def inside (H : Hp) : V → List Int
  | .ref t => match H t with
    | some (.tup vs) => vInts vs
    | _ => []
  | _ => []
theorem intsOf_eq : ∀ {ds : List D} {ns : List Int}, intsOf ds = some ns → ds = ns.map D.int
  | [], _, e => by cases e; rfl
  | .int i :: ds, _, e => by
    unfold intsOf at e
    obtain ⟨ns', e', rfl⟩ := Option.map_eq_some_iff.mp e
    rw [intsOf_eq e']; rfl
end MS
set_option Elab.async false
set_option linter.all false
set_option maxRecDepth 100000
set_option maxHeartbeats 4000000
namespace MS
open PySem PySem.Spec PyProof.Rows L2
def fzD (S : Store) : D → Option (D × Store)
  | .lr n => match S[n]? with
    | some (.lst ds) => some (.lst ds, S.set n .gone)
    | some (.dk kvs) => some (.dk (kvs.map (·.1)) (kvs.map (·.2)), S.set n .gone)
    | some (.dt kvs) => some (.dt (kvs.map (·.1)) (kvs.map (·.2)), S.set n .gone)
    | some (.ins c kvs) => some (.ins c (kvs.map (·.1)) (kvs.map (·.2)), S.set n .gone)
    | _ => none
  | _ => none
def mFz (m : MExp) : MExp := fun ρ S => (m ρ S).bind fun p => fzD p.2 p.1
theorem zip_parts {α β : Type} : ∀ l : List (α × β), (l.map (·.1)).zip (l.map (·.2)) = l
  | [] => rfl
  | (a, b) :: l => by
    show (a, b) :: (l.map (·.1)).zip (l.map (·.2)) = _
    rw [zip_parts l]
theorem RpK.parts {κ : Type} {K : PySem.W.Frag} {H : Hp} {μ : Mu} {kws : List (κ × V)} {kvs : List (κ × D)} (h : RpK K H μ kws kvs) : kws = (kvs.map (·.1)).zip (kws.map (·.2)) ∧ (kvs.map (·.1)).length = (kws.map (·.2)).length := by
  constructor
  · rw [← h.1, zip_parts]
  · rw [← h.1, List.length_map, List.length_map]
theorem fz_rp {K : PySem.W.Frag} {H : Hp} {μ : Mu} {S S' : Store} {d d' : D} {v : V} (s : StR K H μ S) (r : Rp K H μ v d) (e : fzD S d = some (d', S')) : ∃ a, StR K H (μ.drop a) S' ∧ Rp K H (μ.drop a) v d' := by
  unfold fzD at e
  split at e
  · rename_i n
    cases r with
    | lr h1 =>
    rename_i a
    have nm : a ∉ (μ.drop a).lv := fun z => (mem_drop.mp z).2 rfl
    split at e
    · rename_i ds hn
      cases e
      obtain ⟨b, q1, vs, h2, h3⟩ := s.get hn
      rw [h1] at q1; cases q1
      exact ⟨a, s.dropped hn rfl h1, .lst ⟨h2, nm⟩ h3.dropped⟩
    · rename_i kvs hn
      cases e
      obtain ⟨b, q1, kws, h2, h3⟩ := s.get hn
      rw [h1] at q1; cases q1
      obtain ⟨e1, e2⟩ := h3.parts
      exact ⟨a, s.dropped hn rfl h1, .dk (by rw [← e1]; exact h2) nm e2 h3.2.dropped⟩
    · rename_i kvs hn
      cases e
      obtain ⟨b, q1, kws, h2, h3⟩ := s.get hn
      rw [h1] at q1; cases q1
      obtain ⟨e1, e2⟩ := h3.parts
      exact ⟨a, s.dropped hn rfl h1, .dt (by rw [← e1]; exact h2) nm e2 h3.2.dropped⟩
    · rename_i c kvs hn
      cases e
      obtain ⟨b, q1, dx, kws, h2, h3⟩ := s.get hn
      rw [h1] at q1; cases q1
      obtain ⟨e1, e2⟩ := h3.parts
      exact ⟨a, s.dropped hn rfl h1, .ins (by rw [← e1]; exact h2) nm e2 h3.2.dropped⟩
    · cases e
  · cases e
theorem me_fz {X : Cx} {e : Expr} {m : MExp} (h : ME X e m) : ME X e (mFz m) := ⟨PE.imp h.pe fun σ H Q ⟨ρ, S, μ, d, S', st, e, q⟩ => by
  obtain ⟨⟨d1, S1⟩, e1, e⟩ := Option.bind_eq_some_iff.mp e
  refine ⟨ρ, S, μ, d1, S1, st, e1, fun v H1 μ1 g1 s1 r1 => ?_⟩
  obtain ⟨a, s2, r2⟩ := fz_rp s1 r1 e
  exact q v H1 (μ1.drop a) g1.dropped s2 r2⟩
def mLstV (m : MArg) : MExp := fun ρ S => (m ρ S).bind fun p => if p.1.length ≤ szl then some (.lst p.1, p.2) else none
theorem me_lstV {X : Cx} {es : List Expr} {m : MArg} {pos : Pos} (h : MA X es m) : ME X (.List es pos) (mLstV m) :=
  ⟨PE.imp (pe_lst h.pa) fun σ H Q ⟨ρ, S, μ, d, S', st, e, q⟩ => by
    unfold mLstV at e
    obtain ⟨⟨ds, S1⟩, e1, e⟩ := Option.bind_eq_some_iff.mp e
    split at e
    · rename_i hz
      cases e
      exact ⟨ρ, S, μ, ds, _, st, e1, fun vs H1 μ1 g1 s1 r1 => ⟨by rw [r1.length]; exact szl_le hz, fun p hp => Aft.lstV (fun v H' μ' g2 => q v H' μ' (g1.trans g2)) s1 r1 hp⟩⟩
    · cases e⟩
def mExtV (m : MExp) (a : MArg) : MExp := fun ρ S => (m ρ S).bind fun p => match p.1 with
  | .lr n => (mat p.2 n).bind fun _ => (a ρ p.2).bind fun q => match q.1 with
    | [.lst es] => (mat q.2 n).bind fun ds => if ds.length + es.length ≤ szl then some (.non, q.2.set n (.lst (ds ++ es))) else none
    | _ => none
  | _ => none
theorem mExtV_some {m : MArg} {n : Nat} {ρ : Ev} {S1 S' : Store} {d : D} (e : (match (D.lr n, S1).1 with
  | .lr n => (mat (D.lr n, S1).2 n).bind fun _ => (m ρ (D.lr n, S1).2).bind fun q => match q.1 with
    | [.lst es] => (mat q.2 n).bind fun ds => if ds.length + es.length ≤ szl then some (D.non, q.2.set n (.lst (ds ++ es))) else none
    | _ => none
  | _ => none) = some (d, S')) : ∃ ds0 S2 ds es, mat S1 n = some ds0 ∧ m ρ S1 = some ([.lst es], S2) ∧ mat S2 n = some ds ∧ ds.length + es.length ≤ szl ∧ d = .non ∧ S' = S2.set n (.lst (ds ++ es)) := by
  obtain ⟨ds0, e2, e⟩ := Option.bind_eq_some_iff.mp e
  obtain ⟨⟨as, S2⟩, e3, e⟩ := Option.bind_eq_some_iff.mp e
  dsimp only at e
  split at e
  · rename_i es
    obtain ⟨ds, e4, e⟩ := Option.bind_eq_some_iff.mp e
    split at e
    · rename_i hz
      cases e
      exact ⟨ds0, S2, ds, es, e2, e3, e4, hz, rfl, rfl⟩
    · cases e
  · cases e
theorem me_extV {X : Cx} {e : Expr} {es : List Expr} {m : MArg} {o : Expr} {mo : MExp} {apos cpos : Pos} (ho : ME X o mo) (ha : MA X (e :: es) m)
    (hbase : attributeBase o "extend" X.env (eval o X.env) = eval o X.env := by rfl)
    (hfew : ((backTo cpos (starEach (e :: es) X.env)).all (fun x => !x.1) && (backToKw cpos (keywordEach [] X.env)).all (fun x => x.1.isSome)
      && decide ((e :: es).length + ([] : List Keyword).length + (if ([] : List Keyword).isEmpty then 0 else 1) < 30)) = true := by rfl)
    (hline : (apos.endLine == cpos.line) = true := by rfl) (hs : starEach (e :: es) X.env = (false, eval e X.env) :: starEach es X.env := by rfl) (hplain : (backTo cpos (starEach es X.env)).any (·.1) = false := by rfl) :
    ME X (.Call (.Attribute o "extend" apos) (e :: es) [] cpos) (mExtV mo m) :=
  ⟨PE.imp (pe_bm PySem.F.plainAttrs_list PySem.F.slot_list_extend PySem.F.type_list_extend mt_extend ho.pe ha.pa hbase hfew hline hs hplain) fun σ H Q ⟨ρ, S, μ, d, S', st, e, q⟩ => by
    obtain ⟨⟨d1, S1⟩, e1, e⟩ := Option.bind_eq_some_iff.mp e
    refine ⟨ρ, S, μ, d1, S1, st, e1, fun v H1 μ1 g1 s1 r1 => ?_⟩
    cases d1 with
    | lr n =>
      obtain ⟨ds0, S2, ds, es, e2, e3, e4, hz, rfl, rfl⟩ := mExtV_some e
      obtain ⟨a, vs, rfl, h1, h2, h3⟩ := s1.mat e2 r1
      refine ⟨.inl ⟨rfl, vs, .inl (.inl h2)⟩, ρ, S1, μ1, [.lst es], S2, st.grow g1 s1, e3, fun ws H2 μ2 g2 s2 r2 => ?_⟩
      match ws, r2 with
      | [_], .cons (.lst h8 h10) .nil =>
        obtain ⟨a', vs', h4, h5, h6, h7⟩ := s2.mat e4 (r1.grow g2)
        cases h4
        refine ⟨a, _, vs', _, rfl, rfl, h6, h8.1, by rw [h7.length, h10.length]; exact szl_le hz, ?_⟩
        exact q _ _ μ2 ((g1.trans g2).trans (.wrS s2 (mat_eq e4) rfl h5)) (s2.wr (mat_eq e4) h5 (h7.append h10)) .non
    | _ => cases e⟩
def cFz (F : DCall) : DCall := fun ds S => (F ds S).bind fun p => fzD p.2 p.1
theorem c_fz {X : Cx} {f : Value} {F : DCall} (h : CallR X f (rCM X.K F)) : CallR X f (rCM X.K (cFz F)) := CallR.imp h fun vs H Q ⟨S, μ, ds, d, S', s, r, e, q⟩ => by
  obtain ⟨⟨d1, S1⟩, e1, e⟩ := Option.bind_eq_some_iff.mp e
  refine ⟨S, μ, ds, d1, S1, s, r, e1, fun v H1 μ1 g1 s1 r1 => ?_⟩
  obtain ⟨a, s2, r2⟩ := fz_rp s1 r1 e
  exact q v H1 (μ1.drop a) g1.dropped s2 r2
section
variable {X : Cx} {elt tg iter : Expr} {ifs : List Expr} {scope : Scope} {own : List (Str × Nat)} {pos : Pos} {i : MItr} {g : MTg} {t : MTst} {e : MExp} {is : List Nat}
theorem ms_setLcF {j : Nat} {y : Str} {py spos : Pos} (hc : X.calm = true) (hN : X.N.Nodup) (hy : X.N[j]? = some y) (hyl : X.env.scope.names.lookup y = some .local)
    (hsw : swapsWith (.ListComp elt [⟨tg, iter, ifs, 0⟩] scope pos) (some (.Name y py)) spos.line X.env = pure true) (hi : MI X tg iter i) (ok : BlkOk X.N X.env.scope scope own)
    (hg : ∀ (s : Shared) (H : Hp) (C : Addr) (cl : List (Str × Addr)) (fp : List Addr), MGl (X.blk s H scope (compEnvC scope cl C X.env) fp) is tg g) (ht : ∀ (s : Shared) (H : Hp) (C : Addr) (cl : List (Str × Addr)) (fp : List Addr), MTs (X.blk s H scope (compEnvC scope cl C X.env) fp) ifs t)
    (he : ∀ (s : Shared) (H : Hp) (C : Addr) (cl : List (Str × Addr)) (fp : List Addr), ME (X.blk s H scope (compEnvC scope cl C X.env) fp) elt e) (hv : ∀ j ∈ is, j ∈ own.map (·.2)) (hs : ∀ x, foldedSetIterable iter X.env x = pure x := by intro _; rfl) :
    MS_ X (.Assign [.Name y py] (.ListComp elt [⟨tg, iter, ifs, 0⟩] scope pos) spos) (mAsg (mFz (mLc i g t e (own.map (·.2)))) (mName j)) :=
  ⟨PS.imp (ps_setLc hc hN hy hyl hsw hi.pi ok (fun s H C cl fp => (hg s H C cl fp).pg) (fun s H C cl fp => (ht s H C cl fp).pts) (fun s H C cl fp => (he s H C cl fp).pe) hs) fun D_ σ H h => by
    obtain ⟨ρ, S, μ, f, ρ', S', s, e, q⟩ := h
    obtain ⟨⟨d, S1⟩, e1, e⟩ := Option.bind_eq_some_iff.mp e
    cases e
    obtain ⟨⟨d0, S0⟩, e0, e1⟩ := Option.bind_eq_some_iff.mp e1
    exact tE_lc hv ⟨ρ, S, μ, d0, S0, s, e0, fun v H1 μ1 g1 s1 r1 => by
      obtain ⟨a, s2, r2⟩ := fz_rp s1 r1 e1
      exact q _ H1 (μ1.drop a) g1.dropped ((s.grow g1.dropped s2).set j r2)⟩⟩
end
end MS
set_option Elab.async false
set_option linter.all false
set_option maxRecDepth 100000
set_option maxHeartbeats 4000000
namespace MS
open PySem PySem.Spec PyProof.Rows L2
local macro_rules | `(tactic| walk_at "sx") => `(tactic| repeat any_goals first | assumption | wp_step)
section
variable {P : Program} {w : World} {A : Around} {E : Value → Shared → Prop} {s : Shared}
end
def mSortSetL (m : MArg) : MExp := fun ρ S => (m ρ S).bind fun p => match p.1 with
  | [.lst ds] => (intsOf ds).bind fun ns => if ns.length < 4000 ∧ (sortU ns).length < 64 then some (.lst ((sortU ns).map D.int), p.2) else none
  | _ => none
end MS
set_option Elab.async false
set_option linter.all false
set_option maxRecDepth 100000
set_option maxHeartbeats 4000000
namespace MS
open PySem PySem.Spec PyProof.Rows L2
def mZipV (m : MArg) : MItr := fun ρ S => (m ρ S).bind fun p => match p.1 with
  | [.tup ds, .lst es] => some ((zipD ds es, always), p.2)
  | [.lst ds, .lst es] => some ((zipD ds es, always), p.2)
  | _ => none
section
variable {X : Cx} {e e2 : Expr} {p pos tpos : Pos} {elts : List Expr} {kk : Nat}
end
end MS
set_option Elab.async false
set_option linter.all false
set_option maxRecDepth 100000
set_option maxHeartbeats 4000000
namespace MS
open PySem PySem.Spec PyProof.Rows L2
theorem star_Constant {c k p es} {env : Env} : starEach (.Constant c k p :: es) env = (false, eval (.Constant c k p) env) :: starEach es env := rfl
theorem star_Name {c p es} {env : Env} : starEach (.Name c p :: es) env = (false, eval (.Name c p) env) :: starEach es env := rfl
theorem star_Tuple {c k p es} {env : Env} : starEach (.Tuple c k p :: es) env = (false, eval (.Tuple c k p) env) :: starEach es env := rfl
theorem star_List {c p es} {env : Env} : starEach (.List c p :: es) env = (false, eval (.List c p) env) :: starEach es env := rfl
theorem star_BinOp {a b c p es} {env : Env} : starEach (.BinOp a b c p :: es) env = (false, eval (.BinOp a b c p) env) :: starEach es env := rfl
theorem star_Call {a b c p es} {env : Env} : starEach (.Call a b c p :: es) env = (false, eval (.Call a b c p) env) :: starEach es env := rfl
theorem star_Subscript {a b p es} {env : Env} : starEach (.Subscript a b p :: es) env = (false, eval (.Subscript a b p) env) :: starEach es env := rfl
theorem star_Compare {a b c p es} {env : Env} : starEach (.Compare a b c p :: es) env = (false, eval (.Compare a b c p) env) :: starEach es env := rfl
theorem star_IfExp {a b c p es} {env : Env} : starEach (.IfExp a b c p :: es) env = (false, eval (.IfExp a b c p) env) :: starEach es env := rfl
theorem star_ListComp {a b c p es} {env : Env} : starEach (.ListComp a b c p :: es) env = (false, eval (.ListComp a b c p) env) :: starEach es env := rfl
section
variable (K : PySem.W.Frag) (mg : Str → Option Value)
def RetX (Q : VK) (E : XK) (d : D) (H : Hp) (μ : Mu) : Prop :=
  (∀ d0, d = .tup [d0] → ∀ v, Rp K H μ v d0 → Q v H) ∧
  (∀ n c, d = .ins n [c] [] → ∀ C, mg c = some (.ref C) → E (.ref C) none H) ∧
  (∀ n c f d0, d = .ins n [c, f] [d0] → ∀ C dd v, mg c = some (.ref C) → H dd = some (.xd [(f, v)]) → Rp K H μ v d0 → E (.ref C) (some dd) H)
def EndX (W : WX) (D_ : Ends) : Fl → L2.St → Hp → Mu → Prop
  | .nx, σ, H, _ => D_.nx σ H
  | .bk, σ, H, _ => D_.bk σ H
  | .ct, σ, H, _ => D_.ct σ H
  | .rt d, σ, H, μ => RetX K mg D_.rt (fun c dd H' => W c dd σ H') d H μ
def tSX (W : WX) (m : MStm) : TS := fun D_ σ H => ∃ ρ S μ f ρ' S', Sim K H μ σ ρ S ∧ m ρ S = some (f, ρ', S') ∧ ∀ σ' H' μ', Grow H H' μ μ' → Sim K H' μ' σ' ρ' S' → EndX K mg W D_ f σ' H' μ'
def tEX (W : WX) (m : MExp) : TE := fun σ H Q => ∃ ρ S μ d S', Sim K H μ σ ρ S ∧ m ρ S = some (d, S') ∧ ∀ H' μ', Grow H H' μ μ' → StR K H' μ' S' → RetX K mg Q (fun c dd H' => W c dd σ H') d H' μ'
end
structure MSX (X : Cx) (st : Stmt) (m : MStm) : Prop where
  ps : ∀ W, Takes X W → PS X st (tSX X.K X.mg W m)
structure MSXs (X : Cx) (st : List Stmt) (m : MStm) : Prop where
  pss : ∀ W, Takes X W → PSs X st (tSX X.K X.mg W m)
structure MEX (X : Cx) (e : Expr) (m : MExp) : Prop where
  pe : ∀ W, Takes X W → PE X e (tEX X.K X.mg W m)
section
variable {X : Cx} {st : Stmt} {rest : List Stmt} {m m' : MStm} {e : Expr} {me : MExp} {pos : Pos}
end
section
variable {X : Cx} {tg iter : Expr} {body : List Stmt} {i : MItr} {g : MTg} {b : MStm} {pos : Pos}
end
def spInit (C : Addr) (f : Str) : Sp := fun vs H Q _ => ∃ (a : Addr) (v : V), vs = [.ref a, v] ∧ H a = some (exo a C none) ∧ ∀ dx, H dx = none → dx ≠ a → Q .non (upd (upd H dx (exd dx [(f, v)])) a (exo a C (some dx)))
structure EC (P : Program) (w : World) (K : PySem.W.Frag) (mg : Str → Option Value) (base : Heap) (x f : Str) (C fI : Addr) (fd : FuncData) : Prop where
  T : OexC K C
  gC : mg x = some (.ref C)
  iC : PySem.W.findIn K (.ref C) "__init__" = some (some (.ref fI))
  tI : PySem.W.typeIn K (.ref fI) = some (.type "function")
  F1 : FnOk P w K mg base CX0 1 fI fd ["self", f] (spInit C f)
  b : Binds K fd ["self", f] []
section
variable {X : Cx} {x f : Str} {C fI : Addr} {fd : FuncData} {e : Expr} {m : MExp} {p pos pos2 : Pos} {k : Nat}
end
end MS
set_option Elab.async false
set_option linter.all false
set_option maxRecDepth 100000
set_option maxHeartbeats 4000000
namespace MS
open PySem PySem.Spec PyProof.Rows L2
section
variable {P : Program} {w : World} {K : PySem.W.Frag} {mg : Str → Option Value} {base : Heap}
structure FnX (P : Program) (w : World) (K : PySem.W.Frag) (mg : Str → Option Value) (base : Heap) (k : Nat) (f : Addr) (fd : FuncData) (ps : List Str) (F : DCall) : Prop where
  run : ∀ (A : Around) (outer : List Env) (s : Shared) (H : Hp) (args : Args) (us : List Value) (vs : List V) (Q : VK) (E : XK) (S : Store) (μ : Mu) (ds : List D) (d : D) (S' : Store), Room k A → A.guards = some [] → Env0 P w K mg base A outer s H →
    BindsTo s fd args (ps.zip us) → Vals vs us → vs.length = ps.length → StR K H μ S → RpA K H μ vs ds → F ds S = some (d, S') → (∀ H' μ', Grow H H' μ μ' → StR K H' μ' S' → RetX K mg Q E d H' μ') → codeAny (model P w) A (.call (.ref f) args) (CR (L2.CX P w) outer P w H s Q E) s
end
section
variable {X : Cx} {k : Nat} {f : Addr} {fd : FuncData} {ps : List Str} {F : DCall} {x : Str} {p pos : Pos} {e : Expr} {es : List Expr} {m : MArg} {W : WX}
end
section
variable {X : Cx} {e : Expr} {m : MExp} {pos pos' : Pos}
end
end MS
set_option Elab.async false
set_option linter.all false
set_option maxRecDepth 100000
set_option maxHeartbeats 4000000
namespace MS
open PySem PySem.Spec PyProof.Rows L2
structure EF (K : PySem.W.Frag) (C : Addr) (f : Str) : Prop where
  cl : (PySem.W.clsIn K C).isSome = true
  ga : PySem.W.findIn K (.ref C) "__getattribute__" = some (some (.builtin "BaseException.__getattribute__"))
  gg : PySem.W.findIn K (.ref C) "__getattr__" = some none
  exC : PySem.W.subIn K (.ref C) (.type "BaseException") = some true
  hdC : PySem.W.hasDictIn K C = true
  ha : PySem.W.findIn K (.ref C) "__class__" = some (some (.builtin "object.__class__"))
  hn : PySem.W.specialIn K (.builtin "object.__class__") "__get__" = some (some (.builtin "getset_descriptor.__get__"))
  ht : PySem.W.takesIn K (.builtin "object.__class__") = some true
  hm : PySem.W.mroIn K C (.type "object") = some true
  no : PySem.W.findIn K (.ref C) f = some none
section
variable {X : Cx} {C : Addr} {i : Nat} {e : Expr} {h : List (Str × D) → Option D} {pos : Pos}
end
section
variable {X : Cx} {C : Addr} {i : Nat} {x n : Str} {body suite : List Stmt} {b₀ : Stmt} {np pos pos' : Pos} {mb : MStm} {h : List (Str × D) → Option D}
end
end MS
set_option Elab.async false
set_option linter.all false
set_option maxRecDepth 100000
set_option maxHeartbeats 4000000
namespace MS
open PySem PySem.Spec PyProof.Rows L2
def toPyX (S : Store) : Nat → D → Option PyData
  | 0, _ => none
  | _ + 1, .non => some .none
  | _ + 1, .bl b => some (.bool b)
  | _ + 1, .int i => some (.int i)
  | _ + 1, .str x => some (.str x)
  | n + 1, .tup ds => (ds.mapM (toPyX S n)).map .tuple
  | n + 1, .lr k => (lat S k).bind fun ds => (ds.mapM (toPyX S n)).map .list
  | n + 1, .lst ds => (ds.mapM (toPyX S n)).map .list
  | n + 1, .fl ds => (ds.mapM (toPyX S n)).map .list
  | _ + 1, .dk [] [] => some (.dict [])
  | _ + 1, _ => none
structure RxOk (P : Program) (w : World) (h : Heap) (u : Value) (p : PyData) : Prop where
  rd : ∃ as, Reads h u p as
  rk : ∃ bs, ReadAtMost h p.depth bs ∧ ReprK P w bs h p.depth u p.shown
  top : ∀ a, u = .ref a → ∃ T idr, ShowsBy P w h a p T idr
structure RxAll (P : Program) (w : World) (h : Heap) (us : List Value) (ps : List PyData) : Prop where
  rd : ∃ as, ReadsAll h us ps as
  rk : ∃ bs, ReadAtMost h (PyData.depthAll ps) bs ∧ ReprAllK P w bs h (PyData.depthAll ps) us (PyData.shownAll ps)
section
variable {P : Program} {w : World} {h : Heap}
theorem RxAll.nil_ : RxAll P w h [] [] := ⟨⟨_, .nil⟩, [], (fun _ z => nomatch z), .nil⟩
theorem RxAll.cons_ {u : Value} {us : List Value} {p : PyData} {ps : List PyData} (a : RxOk P w h u p) (b : RxAll P w h us ps) : RxAll P w h (u :: us) (p :: ps) := by
  obtain ⟨as, r1⟩ := a.rd
  obtain ⟨cs, r2⟩ := b.rd
  obtain ⟨b1, m1, k1⟩ := a.rk
  obtain ⟨b2, m2, k2⟩ := b.rk
  refine ⟨⟨_, .cons r1 r2⟩, b1 ++ b2, fun c hc => ?_, ?_⟩
  · rcases List.mem_append.mp hc with z | z
    · exact (m1.mono (m := PyData.depthAll (p :: ps)) (by simp only [PyData.depthAll]; omega)) c z
    · exact (m2.mono (m := PyData.depthAll (p :: ps)) (by simp only [PyData.depthAll]; omega)) c z
  · show ReprAllK P w _ h _ _ (p.shown :: PyData.shownAll ps)
    refine .cons ((k1.more fun c z => List.mem_append_left _ z).level_le (by simp only [PyData.depthAll]; omega)) (k2.more_le (fun c z => List.mem_append_right _ z) (by simp only [PyData.depthAll]; omega))
theorem rx_list {a : Addr} {o : Obj} {its : List Value} {n : Nat} {ps : List PyData} (h1 : h.get? a = some o) (h2 : o.cls = .type "list") (h3 : o.data = .seq its.toArray n) (A : RxAll P w h its ps) (hz : (PyData.shown (.list ps)).length ≤ sizeLine) : RxOk P w h (.ref a) (.list ps) := by
  obtain ⟨as, r⟩ := A.rd
  obtain ⟨bs, hb, hk⟩ := A.rk
  have R : Reads h (.ref a) (.list ps) (a :: as) := .list h1 h2 h3 (by simpa using r)
  have na : a ∉ bs := not_mem_of_deeper R (by simp only [PyData.depth]; omega) hb
  have hz' : (listText (PyData.shownAll ps)).length ≤ sizeLine := by simpa only [PyData.shown] using hz
  refine ⟨⟨_, R⟩, ⟨a :: bs, ReadAtMost.cons R (by simp only [PyData.depth]; omega) hb, ?_⟩, fun b eb => ?_⟩
  · simp only [PyData.depth, PyData.shown]
    cases its with
    | nil => cases r; simp only [PyData.shownAll, listText_nil]; exact ReprK.listEmpty h1 h2 h3
    | cons x l => exact ReprK.list h1 h2 h3 na (by simpa using hk.length_eq) (fun i y e => hk.item i y (by simpa using e))
  · cases eb
    refine ⟨"list", "list.__repr__", F.slot_list_repr.toG, F.slot_list_str, F.slot_list_format, fun t k => ⟨o, k _ _ h1, h2⟩, fun A E t Q hg hu k hQ => ?_⟩
    simp only [PyData.depth] at hu
    simp only [PyData.shown] at hQ
    cases its with
    | nil =>
      cases r
      simp only [PyData.shownAll, listText_nil] at hQ
      exact call_list_repr_empty ⟨o, k _ _ h1, h2⟩ (k _ _ h1) h3 (hQ t.heap _ _ fun _ _ z => z)
    | cons x l => exact call_list_reprK h1 h2 h3 na (by simpa using hk.length_eq) (fun i y e => hk.item i y (by simpa using e)) hg (fun b _ => Clear.nil b) hu k hQ hz'
theorem rx_tuple {a : Addr} {o : Obj} {its : List Value} {n : Nat} {ps : List PyData} (h1 : h.get? a = some o) (h2 : o.cls = .type "tuple") (h3 : o.data = .seq its.toArray n) (A : RxAll P w h its ps) (hz : (PyData.shown (.tuple ps)).length ≤ sizeLine) : RxOk P w h (.ref a) (.tuple ps) := by
  obtain ⟨as, r⟩ := A.rd
  obtain ⟨bs, hb, hk⟩ := A.rk
  have R : Reads h (.ref a) (.tuple ps) as := .tuple h1 h2 h3 (by simpa using r)
  have na : a ∉ bs := not_mem_of_deeper R (by simp only [PyData.depth]; omega) hb
  have hz' : (tupleText (PyData.shownAll ps)).length ≤ sizeLine := by simpa only [PyData.shown] using hz
  refine ⟨⟨_, R⟩, ⟨a :: bs, ReadAtMost.cons R (by simp only [PyData.depth]; omega) hb, ?_⟩, fun b eb => ?_⟩
  · simp only [PyData.depth, PyData.shown]
    exact ReprK.tuple h1 h2 h3 na (by simpa using hk)
  · cases eb
    refine ⟨"tuple", "tuple.__repr__", F.slot_tuple_repr, F.slot_tuple_str, F.slot_tuple_format, fun t k => ⟨o, k _ _ h1, h2⟩, fun A E t Q hg hu k hQ => ?_⟩
    simp only [PyData.depth] at hu
    simp only [PyData.shown] at hQ
    exact call_tuple_reprK h1 h2 h3 na (by simpa using hk) hg (fun b _ => Clear.nil b) hu k hQ hz'
theorem rx_dict {a : Addr} {o : Obj} {n : Nat} (h1 : h.get? a = some o) (h2 : o.cls = .type "dict") (h3 : o.data = .dict #[] n) (hs : (a == sysModules) = false) : RxOk P w h (.ref a) (.dict []) := by
  have R : Reads h (.ref a) (.dict []) (a :: [] ++ []) := .dict (kvs := []) h1 h2 h3 .nil .nil
  have sh : PyData.shown (.dict []) = dictText [] := by simp only [PyData.shown, PyData.shownKv]
  have dp : PyData.depth (.dict []) = 0 + 1 := by simp only [PyData.depth, PyData.depthKv]
  refine ⟨⟨_, R⟩, ⟨[a], fun b hb => ?_, ?_⟩, fun b eb => ?_⟩
  · rw [List.mem_singleton.mp hb]
    exact ⟨_, _, R, Nat.le_refl _⟩
  · rw [sh, dp]
    exact ReprK.dict (as := []) h1 h2 h3 hs (fun z => nomatch z) .nil
  · cases eb
    refine ⟨"dict", "dict.__repr__", F.slot_dict_repr, F.slot_dict_str, F.slot_dict_format, fun t k => ⟨o, k _ _ h1, h2⟩, fun A E t Q hg hu k hQ => ?_⟩
    rw [dp] at hu
    rw [sh] at hQ
    exact call_dict_reprK (as := []) h1 h2 h3 hs (fun z => nomatch z) .nil hg (fun b _ => Clear.nil b) hu k hQ (by decide +kernel)
end
section
variable {X : Cx} {pins : List (Addr × Obj)} {σ : L2.St} {H : Hp} {s : Shared} {μ : Mu} {S : Store}
theorem rxAll_of {n : Nat} (ih : ∀ (d : D) (v : V) (u : Value) (p : PyData), toPyX S n d = some p → Rp X.K H μ v d → RelV v u → p.showable = true → p.shown.length ≤ sizeLine → RxOk X.prog X.w s.heap u p) :
    ∀ (ds : List D) (vs : List V) (us : List Value) (ps : List PyData), ds.mapM (toPyX S n) = some ps → RpA X.K H μ vs ds → Vals vs us → PyData.showableAll ps = true → (∀ t ∈ PyData.shownAll ps, t.length ≤ sizeLine) → RxAll X.prog X.w s.heap us ps
  | [], _, _, _, e, r, rv, _, _ => by
    cases r; cases rv
    rw [List.mapM_nil] at e
    cases e
    exact .nil_
  | d :: ds, _, _, _, e, r, rv, hs, hz => by
    cases r with
    | cons r1 r2 =>
      cases rv with
      | cons v1 v2 =>
        rw [List.mapM_cons] at e
        obtain ⟨p, e1, e⟩ := Option.bind_eq_some_iff.mp e
        obtain ⟨ps, e2, e⟩ := Option.bind_eq_some_iff.mp e
        cases e
        have hs : (p.showable && PyData.showableAll ps) = true := hs
        obtain ⟨h1, h2⟩ := Bool.and_eq_true_iff.mp hs
        have hz : ∀ t ∈ p.shown :: PyData.shownAll ps, t.length ≤ sizeLine := hz
        exact .cons_ (ih _ _ _ _ e1 r1 v1 h1 (hz _ List.mem_cons_self)) (rxAll_of ih ds _ _ _ e2 r2 v2 h2 fun t ht => hz t (List.mem_cons_of_mem _ ht))
theorem rx_of (I : Inv X pins σ H s) (st : StR X.K H μ S) : ∀ (n : Nat) (d : D) (v : V) (u : Value) (p : PyData), toPyX S n d = some p → Rp X.K H μ v d → RelV v u → p.showable = true → p.shown.length ≤ sizeLine → RxOk X.prog X.w s.heap u p := by
  intro n
  induction n with
  | zero => intro d v u p e; cases e
  | succ n ih =>
    intro d v u p e r rv hs hz
    have atom : ∀ {x : Value} {q : PyData}, (∀ a, x ≠ .ref a) → Reads s.heap x q [] → ReprIs X.prog X.w x q.shown → RxOk X.prog X.w s.heap x q := fun ne rd is => ⟨⟨_, rd⟩, ⟨[], fun _ z => (nomatch z), .of_is is _ _ _⟩, fun a ea => absurd ea (ne a)⟩
    have many : ∀ {ps : List PyData}, PyData.shown (.list ps) = listText (PyData.shownAll ps) := fun {ps} => by simp only [PyData.shown]
    have lists : ∀ {ds : List D} {a : Addr} {vs : List V} {ps : List PyData}, ds.mapM (toPyX S n) = some ps → SqL X.K H a vs → RpA X.K H μ vs ds → (PyData.list ps).showable = true → (PyData.list ps).shown.length ≤ sizeLine → RxOk X.prog X.w s.heap (.ref a) (.list ps) := fun {ds a vs ps} e1 q r2 hs hz => by
      obtain ⟨its, rw_, ⟨o, m, ho, hc, _, hd⟩, _⟩ := I.list q
      refine rx_list ho hc hd (rxAll_of ih _ _ _ _ e1 r2 rw_ hs fun t ht => ?_) hz
      rw [many] at hz
      exact Nat.le_trans (listText_mem_le ht) hz
    cases d with
    | non => cases e; cases r; cases rv; exact atom (fun a z => nomatch z) .none ReprIs.none
    | bl b => cases e; cases r; cases rv; exact atom (fun a z => nomatch z) (.bool b) (ReprIs.bool b)
    | int b =>
      cases e; cases r
      obtain ⟨t, rfl⟩ := rv
      exact atom (fun a z => nomatch z) (.int b t) (ReprIs.int t (by simpa [PyData.showable] using hs))
    | str b =>
      cases e; cases r
      obtain ⟨t, rfl⟩ := rv
      exact atom (fun a z => nomatch z) (.str b t) (ReprIs.str b t (by simpa only [PyData.shown] using hz))
    | tup ds =>
      obtain ⟨ps, e1, e2⟩ := Option.map_eq_some_iff.mp (show (ds.mapM (toPyX S n)).map PyData.tuple = some p from e)
      subst e2
      cases r with
      | tup h1 h2 =>
        cases rv
        obtain ⟨its, rw_, ⟨o, ho, hc, m, hd⟩, _⟩ := I.tuple (sq _ _ h1)
        refine rx_tuple ho hc hd (rxAll_of ih _ _ _ _ e1 h2 rw_ hs fun t ht => ?_) hz
        have hz' : (tupleText (PyData.shownAll ps)).length ≤ sizeLine := by simpa only [PyData.shown] using hz
        exact Nat.le_trans (tupleText_mem_le ht) hz'
    | lr k =>
      obtain ⟨ds, e0, e⟩ := Option.bind_eq_some_iff.mp (show ((lat S k).bind fun ds => (ds.mapM (toPyX S n)).map PyData.list) = some p from e)
      obtain ⟨ps, e1, e2⟩ := Option.map_eq_some_iff.mp e
      subst e2
      obtain ⟨a, vs, rfl, h1, h2⟩ := st.lat e0 r
      cases rv
      exact lists e1 h1 h2 hs hz
    | lst ds =>
      obtain ⟨ps, e1, e2⟩ := Option.map_eq_some_iff.mp (show (ds.mapM (toPyX S n)).map PyData.list = some p from e)
      subst e2
      cases r with
      | lst h1 h2 => cases rv; exact lists e1 h1.sqL h2 hs hz
    | fl ds =>
      obtain ⟨ps, e1, e2⟩ := Option.map_eq_some_iff.mp (show (ds.mapM (toPyX S n)).map PyData.list = some p from e)
      subst e2
      cases r with
      | fl h1 h2 => cases rv; exact lists e1 h1.sqL h2 hs hz
    | dk ks ds =>
      match ks, ds, e with
      | [], [], e =>
        cases e
        cases r with
        | dk h1 h2 h3 h4 =>
          cases h4
          cases rv
          obtain ⟨_, hsm, vs, kv, o, es, ep, ho, hx, hd, _, hp, _⟩ := dk_of I.hok h1
          cases kv
          have e0 : es = #[] := by
            have := hp.length
            exact Array.eq_empty_of_size_eq_zero (by simpa using this)
          subst e0
          exact rx_dict ho hx.1 hd hsm
    | _ => cases e
end
def okShowX (p : PyData) : Bool := p.showable && decide (p.depth ≤ 64) && decide (p.shown.length ≤ szl)
def cReprX : DCall := fun ds S => match ds with
  | [d] => (toPyX S 64 d).bind fun p => if okShowX p then some (.str p.shown, S) else none
  | _ => none
theorem c_reprX {X : Cx} (hg : X.A.guards = some []) (hu : X.A.units + 80 < cLine) : CallR X (.builtin "repr") (rCM X.K cReprX) := by
  intro pins s σ H xs us Q I r ⟨S, μ, ds, d, S', st, rr, e, q⟩
  unfold cReprX at e
  split at e
  · rename_i d0
    obtain ⟨p, e1, e⟩ := Option.bind_eq_some_iff.mp e
    split at e
    · rename_i hok
      cases e
      unfold okShowX at hok
      simp only [Bool.and_eq_true, decide_eq_true_eq] at hok
      obtain ⟨⟨h1, h3⟩, h4⟩ := hok
      have h4 : p.shown.length ≤ sizeLine := szl_le h4
      match xs, rr, us, r with
      | [v], .cons r1 .nil, [u], .cons ru .nil =>
        have R := rx_of I st 64 d0 v u p e1 r1 ru h1 h4
        have fin : ∀ (t : Tok) (h' : Heap) (tk : Nat), (∀ b o, s.heap.get? b = some o → h'.get? b = some o) → EP X pins σ Q (.str p.shown t) { s with heap := h', toks := tk } := fun t h' tk hk => ⟨.str p.shown, H, I.kept (t' := tk) hk, ⟨t, rfl⟩, q.id st (.str _)⟩
        by_cases hr : ∃ a, u = .ref a
        · obtain ⟨a, rfl⟩ := hr
          obtain ⟨T, idr, SB⟩ := R.top a rfl
          exact call_repr_slot (by omega) (SB.typeIs s fun _ _ z => z) SB.slotRepr (SB.call X.A.in1 _ s _ hg (by show X.A.units + 1 + p.depth < cLine; omega) (fun _ _ z => z) fun h' u' tk hk => ⟨_, _, rfl, fin _ _ _ hk⟩)
        · obtain ⟨as, rd⟩ := R.rd
          cases rd with
          | none => exact PySem.P.repr_of_none (fin _ _ _ fun _ _ z => z)
          | bool b => exact PySem.P.repr_of_bool (fin _ _ _ fun _ _ z => z)
          | int i t => exact PySem.P.repr_of_int (of_decide_eq_true h1) (fin _ _ _ fun _ _ z => z)
          | str x t => exact PySem.P.repr_of_str (fin _ _ _ fun _ _ z => z) h4
          | list => exact absurd ⟨_, rfl⟩ hr
          | tuple => exact absurd ⟨_, rfl⟩ hr
          | dict => exact absurd ⟨_, rfl⟩ hr
    · cases e
  · cases e
def fEqX : DOp2 := fun x y S => match x, y with
  | .tup ds, .tup [] => some (.bl ds.isEmpty, S)
  | x, y => fEq x y S
end MS
set_option Elab.async false
set_option linter.all false
set_option maxRecDepth 100000
set_option maxHeartbeats 4000000
namespace MS
open PySem PySem.Spec PyProof.Rows L2
theorem dict_eq_text {a : Addr} {o : Obj} {b : Str} {u : Tok} (hc : o.cls = Value.type "dict") : Meets (Builtin.«dict.__eq__» { pos := [Value.ref a, Value.str b u] }) fun x R s => s.heap.get? a = some o ∧ R (Except.ok (Flow.ret Value.notImplemented)) s :=
  Meets.of_wp fun prog w A R s h => by
    obtain ⟨hp, g, d, tk, os⟩ := s
    obtain ⟨hl, h⟩ := h
    have f1 := F.sub_str_dict
    refine wpAny_bind ?_
    refine wpAny_bind (wpAny_notOrdered_dict ⟨o, hl, hc⟩ ?_)
    refine wpAny_bind ?_
    unfold slotArgs
    refine wpAny_ite_false rfl (wpAny_ite_false rfl (wpAny_pure ?_))
    refine wpAny_pure ?_
    refine wpAny_bind ?_
    refine wpAny_bind (wpAny_pure (wpAny_of_eq f1 ?_))
    exact wpAny_ite_true rfl (wpAny_bind (wpAny_rule (wpAny_pure ⟨_, rfl, h⟩)))
theorem dict_ne_text {a : Addr} {o : Obj} {b : Str} {u : Tok} (hc : o.cls = Value.type "dict") : Meets (Builtin.«dict.__ne__» { pos := [Value.ref a, Value.str b u] }) fun x R s => s.heap.get? a = some o ∧ R (Except.ok (Flow.ret Value.notImplemented)) s :=
  Meets.of_wp fun prog w A R s h => by
    obtain ⟨hp, g, d, tk, os⟩ := s
    obtain ⟨hl, h⟩ := h
    have f1 := F.sub_str_dict
    refine wpAny_bind ?_
    refine wpAny_bind (wpAny_notOrdered_dict ⟨o, hl, hc⟩ ?_)
    refine wpAny_bind ?_
    unfold slotArgs
    refine wpAny_ite_false rfl (wpAny_ite_false rfl (wpAny_pure ?_))
    refine wpAny_pure ?_
    refine wpAny_bind ?_
    refine wpAny_bind (wpAny_pure (wpAny_of_eq f1 ?_))
    exact wpAny_ite_true rfl (wpAny_bind (wpAny_rule (wpAny_pure ⟨_, rfl, h⟩)))
theorem text_eq_dict {a : Addr} {b : Str} {u : Tok} {c : Value} {m : Array DictEntry} {z : Nat} {dd : Option Addr} {sl : Array (Option Value)} : Meets (Builtin.«str.__eq__» { pos := [Value.str b u, Value.ref a] }) fun x R s => s.heap.get? a = some { cls := c, dict := dd, data := .dict m z, slots := sl } ∧ R (Except.ok (Flow.ret Value.notImplemented)) s :=
  Meets.of_wp fun prog w A R s h => by
    obtain ⟨hp, g, d, tk, os⟩ := s
    obtain ⟨hl, h⟩ := h
    refine wpAny_bind (wpAny_bind ?_)
    unfold slotArgs
    refine wpAny_ite_false rfl (wpAny_ite_false rfl (wpAny_pure (wpAny_bind ?_)))
    refine wpAny_bind (wpAny_pure (wpAny_pure (wpAny_pure (wpAny_bind (wpAny_bind (wpAny_load hl (wpAny_pure (wpAny_bind ?_))))))))
    exact wpAny_rule (wpAny_pure ⟨_, rfl, h⟩)
theorem text_ne_dict {a : Addr} {b : Str} {u : Tok} {c : Value} {m : Array DictEntry} {z : Nat} {dd : Option Addr} {sl : Array (Option Value)} : Meets (Builtin.«str.__ne__» { pos := [Value.str b u, Value.ref a] }) fun x R s => s.heap.get? a = some { cls := c, dict := dd, data := .dict m z, slots := sl } ∧ R (Except.ok (Flow.ret Value.notImplemented)) s :=
  Meets.of_wp fun prog w A R s h => by
    obtain ⟨hp, g, d, tk, os⟩ := s
    obtain ⟨hl, h⟩ := h
    refine wpAny_bind (wpAny_bind ?_)
    unfold slotArgs
    refine wpAny_ite_false rfl (wpAny_ite_false rfl (wpAny_pure (wpAny_bind ?_)))
    refine wpAny_bind (wpAny_pure (wpAny_pure (wpAny_pure (wpAny_bind (wpAny_bind (wpAny_load hl (wpAny_pure (wpAny_bind ?_))))))))
    exact wpAny_rule (wpAny_pure ⟨_, rfl, h⟩)
def fEqS : DOp2 := fun x y S => match x, y with
  | .tup _, .str _ => some (.bl false, S)
  | .lst _, .str _ => some (.bl false, S)
  | .dk [] [], .str _ => some (.bl false, S)
  | x, y => fEq x y S
def fNeS : DOp2 := fun x y S => match x, y with
  | .tup _, .str _ => some (.bl true, S)
  | .lst _, .str _ => some (.bl true, S)
  | .dk [] [], .str _ => some (.bl true, S)
  | x, y => fNe x y S
section
variable {X : Cx}
theorem o_eqS (hu : X.A.units + 64 < cLine) : OpR X (compareOp .Eq) (rM X.K fEqS) := by
  intro pins s σ H x y v u Q I rx ry ⟨S, μ, dx, dy, d, S', st, px, py, e, q⟩
  unfold fEqS at e
  split at e
  · cases e
    cases px with
    | tup h1 h2 =>
      cases py
      cases rx
      obtain ⟨t, rfl⟩ := ry
      obtain ⟨its, _, ht, _⟩ := I.tuple (sq _ _ h1)
      exact SeqAt.RcAt.tuple_str _ t ht (by omega) _ _ _ _ ⟨.bl _, H, I, rfl, q.id st (.bl _)⟩
  · cases e
    cases px with
    | lst h1 h2 =>
      cases py
      cases rx
      obtain ⟨t, rfl⟩ := ry
      obtain ⟨its, _, ⟨o, m, ho, hc, _, hd⟩, _⟩ := I.list h1.sqL
      exact SeqAt.RcAt.list_str _ t ⟨o, ho, hc, m, hd⟩ (by omega) _ _ _ _ ⟨.bl _, H, I, rfl, q.id st (.bl _)⟩
  · cases e
    cases px with
    | dk h1 h2 h3 h4 =>
      cases h4
      cases py
      cases rx
      obtain ⟨t, rfl⟩ := ry
      obtain ⟨_, hsm, vs, kv, o, es, ep, ho, hx, hd, _⟩ := dk_of I.hok h1
      have ho' := ho
      obtain ⟨c, dd, da, sl⟩ := o
      cases hx.1
      cases hd
      refine SeqAt.rc_eq_decline_or ⟨_, ho, rfl⟩ (typeIs_str s _ t) rfl F.sub_str_dict F.slot_dict_eq F.slot_str_eq_refl
        (fun x hq => call_meets F.slot_dict_eq ⟨_, ho, rfl⟩ F.entry_dict_eq (F.args_dict_eq_2 _ _) (dict_eq_text rfl) ⟨ho, hq⟩)
        (fun x hq => call_meets F.slot_str_eq_refl (typeIs_str s _ t) F.entry_str_eq (F.args_str_eq_2 _ _) text_eq_dict ⟨ho, hq⟩)
        (fun x hq => wpAny_of_eq rfl hq) (.inr (by omega)) ⟨.bl _, H, I, rfl, q.id st (.bl _)⟩
  · exact o_eq hu pins s σ H x y v u Q I rx ry ⟨S, μ, _, _, d, S', st, px, py, e, q⟩
theorem o_neS (hu : X.A.units + 64 < cLine) : OpR X (compareOp .NotEq) (rM X.K fNeS) := by
  intro pins s σ H x y v u Q I rx ry ⟨S, μ, dx, dy, d, S', st, px, py, e, q⟩
  unfold fNeS at e
  split at e
  · cases e
    cases px with
    | tup h1 h2 =>
      cases py
      cases rx
      obtain ⟨t, rfl⟩ := ry
      obtain ⟨its, _, ⟨o, ho, hc, m, hd⟩, _⟩ := I.tuple (sq _ _ h1)
      obtain ⟨c, dd, da, sl⟩ := o
      cases hc
      cases hd
      refine SeqAt.rc_ne_decline_or ⟨_, ho, rfl⟩ (typeIs_str s _ t) rfl F.sub_str_tuple F.slot_tuple_ne F.slot_str_ne_refl
        (fun x hq => call_meets F.slot_tuple_ne ⟨_, ho, rfl⟩ F.entry_tuple_ne (F.args_tuple_ne_2 _ _) (SeqAt.tuple_ne_declines_str _ _ _ _ _ _ _) ⟨ho, hq⟩)
        (fun x hq => call_meets F.slot_str_ne_refl (typeIs_str s _ t) F.entry_str_ne (F.args_str_ne_2 _ _) (SeqAt.str_ne_declines_seq_str _ _ _ _ _ _ _ _) ⟨ho, hq⟩)
        (fun x hq => wpAny_of_eq rfl hq) (.inr (by omega)) ⟨.bl _, H, I, rfl, q.id st (.bl _)⟩
  · cases e
    cases px with
    | lst h1 h2 =>
      cases py
      cases rx
      obtain ⟨t, rfl⟩ := ry
      obtain ⟨its, _, ⟨o, m, ho, hc, _, hd⟩, _⟩ := I.list h1.sqL
      obtain ⟨c, dd, da, sl⟩ := o
      cases hc
      cases hd
      refine SeqAt.rc_ne_decline_or ⟨_, ho, rfl⟩ (typeIs_str s _ t) rfl F.sub_str_list F.slot_list_ne F.slot_str_ne_refl
        (fun x hq => call_meets F.slot_list_ne ⟨_, ho, rfl⟩ F.entry_list_ne (F.args_list_ne_2 _ _) (SeqAt.list_ne_declines_str _ _ _ _ _ _ _) ⟨ho, hq⟩)
        (fun x hq => call_meets F.slot_str_ne_refl (typeIs_str s _ t) F.entry_str_ne (F.args_str_ne_2 _ _) (SeqAt.str_ne_declines_seq_str _ _ _ _ _ _ _ _) ⟨ho, hq⟩)
        (fun x hq => wpAny_of_eq rfl hq) (.inr (by omega)) ⟨.bl _, H, I, rfl, q.id st (.bl _)⟩
  · cases e
    cases px with
    | dk h1 h2 h3 h4 =>
      cases h4
      cases py
      cases rx
      obtain ⟨t, rfl⟩ := ry
      obtain ⟨_, hsm, vs, kv, o, es, ep, ho, hx, hd, _⟩ := dk_of I.hok h1
      obtain ⟨c, dd, da, sl⟩ := o
      cases hx.1
      cases hd
      refine SeqAt.rc_ne_decline_or ⟨_, ho, rfl⟩ (typeIs_str s _ t) rfl F.sub_str_dict F.slot_dict_ne F.slot_str_ne_refl
        (fun x hq => call_meets F.slot_dict_ne ⟨_, ho, rfl⟩ F.entry_dict_ne (F.args_dict_ne_2 _ _) (dict_ne_text rfl) ⟨ho, hq⟩)
        (fun x hq => call_meets F.slot_str_ne_refl (typeIs_str s _ t) F.entry_str_ne (F.args_str_ne_2 _ _) text_ne_dict ⟨ho, hq⟩)
        (fun x hq => wpAny_of_eq rfl hq) (.inr (by omega)) ⟨.bl _, H, I, rfl, q.id st (.bl _)⟩
  · exact o_ne hu pins s σ H x y v u Q I rx ry ⟨S, μ, _, _, d, S', st, px, py, e, q⟩
end
end MS
set_option Elab.async false
set_option linter.all false
set_option maxRecDepth 100000
set_option maxHeartbeats 4000000
namespace MS
open PySem PySem.Spec PyProof.Rows L2
section
variable {X : Cx} {e e2 : Expr} {p pos tpos : Pos} {elts : List Expr} {kk : Nat}
def mZipT (m : MArg) : MItr := fun ρ S => (m ρ S).bind fun p => match p.1 with
  | [.tup ds, .tup es] => some ((zipD ds es, always), p.2)
  | _ => none
end
end MS
set_option Elab.async false
set_option linter.all false
set_option maxRecDepth 100000
set_option maxHeartbeats 4000000
namespace MS
open PySem PySem.Spec PyProof.Rows L2
mutual
def solid : D → Bool
  | .non => true
  | .bl _ => true
  | .int _ => true
  | .str _ => true
  | .tup ds => solidA ds
  | _ => false
def solidA : List D → Bool
  | [] => true
  | d :: ds => solid d && solidA ds
end
mutual
theorem Rp.solid {K : PySem.W.Frag} {H : Hp} {μ μ' : Mu} : ∀ {d : D} {v : V}, MS.solid d = true → Rp K H μ v d → Rp K H μ' v d
  | .non, _, _, r => by cases r; exact .non
  | .bl _, _, _, r => by cases r; exact .bl _
  | .int _, _, _, r => by cases r; exact .int _
  | .str _, _, _, r => by cases r; exact .str _
  | .tup ds, _, h, r => by
    cases r with
    | tup h1 h2 => exact .tup h1 (RpA.solid (show solidA ds = true from h) h2)
  | .lr _, _, h, _ => nomatch h
  | .lst _, _, h, _ => nomatch h
  | .fl _, _, h, _ => nomatch h
  | .dk _ _, _, h, _ => nomatch h
  | .dt _ _, _, h, _ => nomatch h
  | .ins _ _ _, _, h, _ => nomatch h
  | .fn _, _, h, _ => nomatch h
theorem RpA.solid {K : PySem.W.Frag} {H : Hp} {μ μ' : Mu} : ∀ {ds : List D} {vs : List V}, solidA ds = true → RpA K H μ vs ds → RpA K H μ' vs ds
  | [], _, _, r => by cases r; exact .nil
  | d :: ds, _, h, r => by
    cases r with
    | cons r1 r2 =>
      have h : (MS.solid d && solidA ds) = true := h
      rw [Bool.and_eq_true] at h
      exact .cons (Rp.solid h.1 r1) (RpA.solid h.2 r2)
end
def lendP (i : Nat) (F : DCall) : DCall := fun ds S => match ds[i]? with
  | some (.lr n) => match S[n]? with
    | some (.lst es) => (F (ds.set i (.lst es)) (List.replicate S.length .gone)).bind fun p => cond (solid p.1) (some (p.1, S ++ List.replicate (p.2.length - S.length) .gone)) none
    | _ => none
  | _ => none
section
variable {X : Cx} {k : Nat} {f : Addr} {fd : FuncData} {ps : List Str} {F : DCall} {x : Str} {p pos : Pos} {e : Expr} {es : List Expr} {m : MArg}
end
end MS
set_option Elab.async false
set_option linter.all false
set_option maxRecDepth 100000
set_option maxHeartbeats 4000000
namespace MS
open PySem PySem.Spec PyProof.Rows L2
def mPar3 (i j l : Nat) (m : MArg) : MStm := fun ρ S => (m ρ S).bind fun p => match p.1 with
  | [a, b, c] => some (.nx, ((ρ.set i (some a)).set j (some b)).set l (some c), p.2)
  | _ => none
section
variable {X : Cx} {pos : Pos}
end
end MS
set_option Elab.async false
set_option linter.all false
set_option maxRecDepth 100000
set_option maxHeartbeats 4000000
namespace MS
open PySem PySem.Spec PyProof.Rows L2
end MS
set_option Elab.async false
set_option linter.all false
set_option maxRecDepth 100000
set_option maxHeartbeats 4000000
namespace MS
open PySem PySem.Spec PyProof.Rows L2
end MS
set_option Elab.async false
set_option linter.all false
set_option maxRecDepth 100000
set_option maxHeartbeats 4000000
namespace MS
open PySem PySem.Spec PyProof.Rows L2
structure TabE (P : Program) (w : World) (K : PySem.W.Frag) (mg : Str → Option Value) (base : Heap) (k : Nat) (T : Addr) (x : Str) (F : DCall) : Prop where
  ex : ∃ (f : Addr) (fd : FuncData) (ps : List Str), PySem.W.nsIn K T x = some (some (.ref f)) ∧ FnG P w K mg base k f fd ps F ∧ PySem.W.keepIn K (.ref f) = true ∧ Binds K fd ps [] ∧ ∀ ds S r, F ds S = some r → ds.length = ps.length
section
variable {P : Program} {w : World} {K : PySem.W.Frag} {mg : Str → Option Value} {base : Heap} {k : Nat} {T : Addr}
end
section
variable {X : Cx} {i k : Nat} {x tn : Str} {T : Addr} {es : Array DictEntry} {n : Nat} {ke e : Expr} {as : List Expr} {mk : MExp} {ma : MArg} {tab : List (Str × DCall)} {px pn p1 p2 p3 p4 p5 : Pos}
variable {K : PySem.W.Frag}
end
end MS
set_option Elab.async false
set_option linter.all false
set_option maxRecDepth 100000
set_option maxHeartbeats 4000000
namespace TM
open PySem PySem.Spec PyProof.Rows L2 MS
def All (S S' : Store) : Prop := ∀ (n : Nat) (x : MO), S[n]? = some x → S'[n]? = some x
theorem All.refl {S : Store} : All S S := fun _ _ h => h
theorem All.trans {S S' S'' : Store} (a : All S S') (b : All S' S'') : All S S'' := fun n x h => b n x (a n x h)
theorem All.app {S l : Store} : All S (S ++ l) := fun _ _ h => get_app h
theorem All.len {S S' : Store} (a : All S S') : S.length ≤ S'.length := by
  cases h : S.length with
  | zero => exact Nat.zero_le _
  | succ n =>
    have hn : n < S.length := by omega
    have := a n _ (List.getElem?_eq_getElem hn)
    have := (List.getElem?_eq_some_iff.mp this).1
    omega
theorem All.wr {S S' : Store} {n : Nat} {x : MO} (a : All S S') (h : S.length ≤ n) : All S (S'.set n x) := fun m y e => by
  have hm := (List.getElem?_eq_some_iff.mp e).1
  rw [get_ne (by omega)]
  exact a m y e
def Gv (F : DCall) (args : List D) (r : D) : Prop := ∀ S, ∃ S', F args S = some (r, S') ∧ All S S'
def Gvs {α : Type} (F : DCall) (args : List D) (t : Option α) (E : α → D) : Prop := ∀ a, t = some a → Gv F args (E a)
abbrev eI : Int → D := D.int
abbrev eB : Bool → D := D.bl
abbrev eS : Str → D := D.str
abbrev eN : Unit → D := fun _ => .non
abbrev eD : D → D := fun d => d
def eO {α : Type} (E : α → D) : Option α → D
  | none => .non
  | some a => E a
abbrev eV {α : Type} (E : α → D) : List α → D := fun xs => .tup (xs.map E)
abbrev eL {α : Type} (E : α → D) : List α → D := fun xs => .lst (xs.map E)
abbrev eT2 {α β : Type} (A : α → D) (B : β → D) : α × β → D := fun p => .tup [A p.1, B p.2]
abbrev eT3 {α β γ : Type} (A : α → D) (B : β → D) (C : γ → D) : α × β × γ → D := fun p => .tup [A p.1, B p.2.1, C p.2.2]
abbrev eT4 {α β γ δ : Type} (A : α → D) (B : β → D) (C : γ → D) (E : δ → D) : α × β × γ × δ → D := fun p => .tup [A p.1, B p.2.1, C p.2.2.1, E p.2.2.2]
inductive Sl where
  | unk | val (d : D) | own (ds : List D)
structure Sx (S0 : Store) (sl : List Sl) (ρ : Ev) (S : Store) : Prop where
  all : All S0 S
  len : ρ.length = sl.length
  val : ∀ (i : Nat) (d : D), sl[i]? = some (.val d) → ρ[i]? = some (some d)
  own : ∀ (i : Nat) (ds : List D), sl[i]? = some (.own ds) → ∃ h, ρ[i]? = some (some (.lr h)) ∧ S[h]? = some (.lst ds) ∧ S0.length ≤ h
  one : ∀ (i j : Nat) (ds es : List D) (h : Nat), sl[i]? = some (.own ds) → sl[j]? = some (.own es) → ρ[i]? = some (some (.lr h)) → ρ[j]? = some (some (.lr h)) → i = j
section
variable {S0 S S' : Store} {sl sl' : List Sl} {ρ : Ev}
theorem Sx.grow (s : Sx S0 sl ρ S) (a : All S S') : Sx S0 sl ρ S' :=
  ⟨s.all.trans a, s.len, s.val, fun i ds e => let ⟨h, h1, h2, h3⟩ := s.own i ds e; ⟨h, h1, a _ _ h2, h3⟩, s.one⟩
theorem Sx.set {i : Nat} {d : D} (s : Sx S0 sl ρ S) : Sx S0 (sl.set i (.val d)) (ρ.set i (some d)) S := by
  refine ⟨s.all, by rw [List.length_set, List.length_set]; exact s.len, fun j e h => ?_, fun j ds h => ?_, fun j k ds es h h1 h2 h3 h4 => ?_⟩
  · by_cases hj : i = j
    · subst hj
      have hl : i < sl.length := by have := (List.getElem?_eq_some_iff.mp h).1; rwa [List.length_set] at this
      rw [List.getElem?_set_self hl] at h
      cases h
      exact List.getElem?_set_self (by rw [s.len]; exact hl)
    · rw [List.getElem?_set_ne hj] at h ⊢
      exact s.val j e h
  · by_cases hj : i = j
    · subst hj
      have hl : i < sl.length := by have := (List.getElem?_eq_some_iff.mp h).1; rwa [List.length_set] at this
      rw [List.getElem?_set_self hl] at h
      cases h
    · rw [List.getElem?_set_ne hj] at h ⊢
      exact s.own j ds h
  · have ne : ∀ {j : Nat} {ds : List D}, (sl.set i (.val d))[j]? = some (.own ds) → i ≠ j ∧ sl[j]? = some (.own ds) := fun {j ds} h => by
      by_cases hj : i = j
      · subst hj
        have hl : i < sl.length := by have := (List.getElem?_eq_some_iff.mp h).1; rwa [List.length_set] at this
        rw [List.getElem?_set_self hl] at h
        cases h
      · rw [List.getElem?_set_ne hj] at h
        exact ⟨hj, h⟩
    obtain ⟨n1, q1⟩ := ne h1
    obtain ⟨n2, q2⟩ := ne h2
    rw [List.getElem?_set_ne n1] at h3
    rw [List.getElem?_set_ne n2] at h4
    exact s.one j k ds es h q1 q2 h3 h4
theorem Sx.newF {i n : Nat} {ds : List D} (s : Sx S0 sl ρ S) (a : All S S') (hlo : S0.length ≤ n) (hne : ∀ (j : Nat) (es : List D) (h : Nat), sl[j]? = some (.own es) → ρ[j]? = some (some (.lr h)) → h ≠ n) (hg : S'[n]? = some (.lst ds)) : Sx S0 (sl.set i (.own ds)) (ρ.set i (some (.lr n))) S' := by
  have old : ∀ {j : Nat} {es : List D}, (sl.set i (.own ds))[j]? = some (.own es) → (j = i ∧ es = ds ∧ i < sl.length) ∨ (i ≠ j ∧ sl[j]? = some (.own es)) := fun {j es} h => by
    by_cases hj : i = j
    · subst hj
      have hl : i < sl.length := by have := (List.getElem?_eq_some_iff.mp h).1; rwa [List.length_set] at this
      rw [List.getElem?_set_self hl] at h
      cases h
      exact .inl ⟨rfl, rfl, hl⟩
    · rw [List.getElem?_set_ne hj] at h
      exact .inr ⟨hj, h⟩
  refine ⟨s.all.trans a, by rw [List.length_set, List.length_set]; exact s.len, fun j e h => ?_, fun j es h => ?_, fun j k es fs h h1 h2 h3 h4 => ?_⟩
  · by_cases hj : i = j
    · subst hj
      have hl : i < sl.length := by have := (List.getElem?_eq_some_iff.mp h).1; rwa [List.length_set] at this
      rw [List.getElem?_set_self hl] at h
      cases h
    · rw [List.getElem?_set_ne hj] at h ⊢
      exact s.val j e h
  · rcases old h with ⟨rfl, rfl, hl⟩ | ⟨hj, h⟩
    · exact ⟨n, List.getElem?_set_self (by rw [s.len]; exact hl), hg, hlo⟩
    · obtain ⟨g, q1, q2, q3⟩ := s.own j es h
      exact ⟨g, by rw [List.getElem?_set_ne hj]; exact q1, a _ _ q2, q3⟩
  · rcases old h1 with ⟨rfl, rfl, hl⟩ | ⟨hj, q1⟩
    · rcases old h2 with ⟨rfl, rfl, _⟩ | ⟨hk, q2⟩
      · rfl
      · rw [List.getElem?_set_self (by rw [s.len]; exact hl)] at h3
        rw [List.getElem?_set_ne hk] at h4
        cases h3
        exact absurd rfl (hne _ _ _ q2 h4)
    · rcases old h2 with ⟨rfl, rfl, hl⟩ | ⟨hk, q2⟩
      · rw [List.getElem?_set_self (by rw [s.len]; exact hl)] at h4
        rw [List.getElem?_set_ne hj] at h3
        cases h4
        exact absurd rfl (hne _ _ _ q1 h3)
      · rw [List.getElem?_set_ne hj] at h3
        rw [List.getElem?_set_ne hk] at h4
        exact s.one j k es fs h q1 q2 h3 h4
theorem Sx.own_lt (s : Sx S0 sl ρ S) {j : Nat} {es : List D} {h : Nat} (h1 : sl[j]? = some (.own es)) (h2 : ρ[j]? = some (some (.lr h))) : h < S.length := by
  obtain ⟨h', q1, q2, _⟩ := s.own j es h1
  rw [h2] at q1
  cases q1
  exact (List.getElem?_eq_some_iff.mp q2).1
theorem Sx.new {i n : Nat} {ds : List D} (s : Sx S0 sl ρ S) (a : All S S') (hn : S.length ≤ n) (hg : S'[n]? = some (.lst ds)) : Sx S0 (sl.set i (.own ds)) (ρ.set i (some (.lr n))) S' :=
  s.newF a (Nat.le_trans s.all.len hn) (fun j es h h1 h2 => by have := s.own_lt h1 h2; omega) hg
theorem Sx.wr {i : Nat} {ds es : List D} {h : Nat} (s : Sx S0 sl ρ S) (h1 : sl[i]? = some (.own ds)) (h2 : ρ[i]? = some (some (.lr h))) : Sx S0 (sl.set i (.own es)) ρ (S.set h (.lst es)) := by
  obtain ⟨h', q1, q2, q3⟩ := s.own i ds h1
  rw [h2] at q1
  cases q1
  have hl : i < sl.length := (List.getElem?_eq_some_iff.mp h1).1
  refine ⟨s.all.wr q3, by rw [List.length_set]; exact s.len, fun j e g => ?_, fun j fs g => ?_, fun j k fs gs g g1 g2 g3 g4 => ?_⟩
  · by_cases hj : i = j
    · subst hj
      rw [List.getElem?_set_self hl] at g
      cases g
    · rw [List.getElem?_set_ne hj] at g
      exact s.val j e g
  · by_cases hj : i = j
    · subst hj
      rw [List.getElem?_set_self hl] at g
      cases g
      exact ⟨h, h2, get_set q2, q3⟩
    · rw [List.getElem?_set_ne hj] at g
      obtain ⟨k, r1, r2, r3⟩ := s.own j fs g
      refine ⟨k, r1, ?_, r3⟩
      by_cases hk : h = k
      · subst hk
        exact absurd (s.one i j ds fs h h1 g h2 r1) hj
      · rw [get_ne hk]; exact r2
  · have low : ∀ {j : Nat} {fs : List D}, (sl.set i (.own es))[j]? = some (.own fs) → ∃ fs', sl[j]? = some (.own fs') := fun {j fs} g => by
      by_cases hj : i = j
      · subst hj; exact ⟨ds, h1⟩
      · rw [List.getElem?_set_ne hj] at g; exact ⟨fs, g⟩
    obtain ⟨_, q1⟩ := low g1
    obtain ⟨_, q2⟩ := low g2
    exact s.one j k _ _ g q1 q2 g3 g4
inductive Wk : List Sl → List Sl → Prop
  | nil : Wk [] []
  | keep {a : Sl} {l m : List Sl} : Wk l m → Wk (a :: l) (a :: m)
  | drop {a : Sl} {l m : List Sl} : Wk l m → Wk (a :: l) (.unk :: m)
theorem Wk.len : ∀ {l m : List Sl}, Wk l m → m.length = l.length
  | _, _, .nil => rfl
  | _, _, .keep h => by rw [List.length_cons, List.length_cons, h.len]
  | _, _, .drop h => by rw [List.length_cons, List.length_cons, h.len]
theorem Wk.at_ : ∀ {l m : List Sl} {i : Nat} {x : Sl}, Wk l m → m[i]? = some x → x = .unk ∨ l[i]? = some x
  | _, _, i, x, .nil, e => by simp at e
  | _, _, 0, x, .keep h, e => by simp at e; subst e; exact .inr rfl
  | _, _, i + 1, x, .keep h, e => by simpa using h.at_ (i := i) (by simpa using e)
  | _, _, 0, x, .drop h, e => by simp at e; exact .inl e.symm
  | _, _, i + 1, x, .drop h, e => by simpa using h.at_ (i := i) (by simpa using e)
theorem Sx.wk (s : Sx S0 sl ρ S) (w : Wk sl sl') : Sx S0 sl' ρ S :=
  ⟨s.all, by rw [w.len]; exact s.len, fun i d e => (w.at_ e).elim (fun z => nomatch z) (s.val i d), fun i ds e => (w.at_ e).elim (fun z => nomatch z) (s.own i ds),
    fun i j ds es h e1 e2 => (w.at_ e1).elim (fun z => nomatch z) fun e1 => (w.at_ e2).elim (fun z => nomatch z) fun e2 => s.one i j ds es h e1 e2⟩
def wipeS (sl : List Sl) : List Nat → List Sl
  | [] => sl
  | i :: is => (wipeS sl is).set i .unk
theorem Sx.unset {i : Nat} (s : Sx S0 sl ρ S) : Sx S0 (sl.set i .unk) (ρ.set i none) S := by
  have low : ∀ {j : Nat} {x : Sl}, (sl.set i .unk)[j]? = some x → x ≠ .unk → i ≠ j ∧ sl[j]? = some x := fun {j x} h n => by
    by_cases hj : i = j
    · subst hj
      have hl : i < sl.length := by have := (List.getElem?_eq_some_iff.mp h).1; rwa [List.length_set] at this
      rw [List.getElem?_set_self hl] at h
      cases h
      exact absurd rfl n
    · rw [List.getElem?_set_ne hj] at h
      exact ⟨hj, h⟩
  refine ⟨s.all, by rw [List.length_set, List.length_set]; exact s.len, fun j d h => ?_, fun j ds h => ?_, fun j k ds es h h1 h2 h3 h4 => ?_⟩
  · obtain ⟨n, q⟩ := low h (fun z => nomatch z)
    rw [List.getElem?_set_ne n]; exact s.val j d q
  · obtain ⟨n, q⟩ := low h (fun z => nomatch z)
    rw [List.getElem?_set_ne n]; exact s.own j ds q
  · obtain ⟨n1, q1⟩ := low h1 (fun z => nomatch z)
    obtain ⟨n2, q2⟩ := low h2 (fun z => nomatch z)
    rw [List.getElem?_set_ne n1] at h3
    rw [List.getElem?_set_ne n2] at h4
    exact s.one j k ds es h q1 q2 h3 h4
end
theorem Sx.wipe {S0 S : Store} : ∀ (vs : List Nat) {sl : List Sl} {ρ : Ev}, Sx S0 sl ρ S → Sx S0 (wipeS sl vs) (wipeD ρ vs) S
  | [], _, _, s => s
  | _ :: vs, _, _, s => (Sx.wipe vs s).unset
end TM
set_option Elab.async false
set_option linter.all false
set_option maxRecDepth 100000
set_option maxHeartbeats 4000000
namespace TM
open PySem PySem.Spec PyProof.Rows L2 MS
def XE {α : Type} (S0 : Store) (sl : List Sl) (m : MExp) (t : Option α) (E : α → D) : Prop := ∀ ρ S, Sx S0 sl ρ S → ∀ a, t = some a → ∃ S', m ρ S = some (E a, S') ∧ All S S'
def XT (S0 : Store) (sl : List Sl) (m : MTst) (t : Option Bool) : Prop := ∀ ρ S, Sx S0 sl ρ S → ∀ a, t = some a → ∃ S', m ρ S = some (a, S') ∧ All S S'
def XP (S0 : Store) (sl : List Sl) (m : MPart) (t : Option (Option Int)) : Prop := ∀ ρ S, Sx S0 sl ρ S → ∀ a, t = some a → ∃ S', m ρ S = some (a, S') ∧ All S S'
def XI {α : Type} (S0 : Store) (sl : List Sl) (m : MItr) (t : Option (List α)) (E : α → D) : Prop := ∀ ρ S, Sx S0 sl ρ S → ∀ a, t = some a → ∃ S', m ρ S = some ((a.map E, always), S') ∧ All S S'
def XG (S0 : Store) (sl : List Sl) (g : MTg) (d : D) (sl' : List Sl) : Prop := ∀ ρ S, Sx S0 sl ρ S → ∃ ρ', g d ρ S = some (ρ', S) ∧ Sx S0 sl' ρ' S
def XGs (S0 : Store) (sl : List Sl) (g : MTgs) (d : List D) (sl' : List Sl) : Prop := ∀ ρ S, Sx S0 sl ρ S → ∃ ρ', g d ρ S = some (ρ', S) ∧ Sx S0 sl' ρ' S
def Op2 {α β γ : Type} (f : DOp2) (A : α → D) (B : β → D) (C : γ → D) (k : α → β → Option γ) : Prop := ∀ a b c S, k a b = some c → f (A a) (B b) S = some (C c, S)
section
variable {α β γ δ : Type} {S0 : Store} {sl : List Sl} {m m1 m2 m3 m4 m5 m6 m7 : MExp} {A : α → D} {B : β → D} {C : γ → D} {t : Option α} {t1 : Option α} {t2 : Option β}
theorem bnd {α β : Type} {o : Option α} {f : α → Option β} {b : β} (h : o.bind f = some b) : ∃ a, o = some a ∧ f a = some b := Option.bind_eq_some_iff.mp h
theorem xe_var {i : Nat} {a : α} (E : α → D) (h : sl[i]? = some (.val (E a))) : XE S0 sl (mVar i) (some a) E := fun ρ S s b e => by
  cases e
  exact ⟨S, by unfold mVar; rw [s.val i _ h], .refl⟩
theorem xe_c {d : D} {a : α} (E : α → D) (h : d = E a) : XE S0 sl (mC d) (some a) E := fun ρ S s b e => by cases e; exact ⟨S, by rw [h]; rfl, .refl⟩
theorem xe_bin {f : DOp2} {k : α → β → Option γ} (h1 : XE S0 sl m1 t1 A) (h2 : XE S0 sl m2 t2 B) (hf : Op2 f A B C k) : XE S0 sl (mBin f m1 m2) (t1.bind fun a => t2.bind fun b => k a b) C := fun ρ S s c e => by
  obtain ⟨a, e1, e⟩ := bnd e
  obtain ⟨b, e2, e⟩ := bnd e
  obtain ⟨S1, q1, a1⟩ := h1 ρ S s a e1
  obtain ⟨S2, q2, a2⟩ := h2 ρ S1 (s.grow a1) b e2
  refine ⟨S2, ?_, a1.trans a2⟩
  show ((m1 ρ S).bind fun p => (m2 ρ p.2).bind fun q => f p.1 q.1 q.2) = _
  rw [q1]
  show ((m2 ρ S1).bind fun q => f (A a) q.1 q.2) = _
  rw [q2]
  exact hf a b c S2 e
theorem xe_map {B : β → D} {f : α → β} (h : XE S0 sl m t A) (hE : ∀ a, A a = B (f a)) : XE S0 sl m (t.bind fun a => some (f a)) B := fun ρ S s b e => by
  obtain ⟨a, e1, e⟩ := bnd e
  cases e
  obtain ⟨S', q, a1⟩ := h ρ S s a e1
  exact ⟨S', by rw [q, hE], a1⟩
theorem xe_if {c : MTst} {tc : Option Bool} {ta tb : Option α} (hc : XT S0 sl c tc) (ha : XE S0 sl m1 ta A) (hb : XE S0 sl m2 tb A) : XE S0 sl (mIf c m1 m2) (tc.bind fun k => cond k ta tb) A := fun ρ S s a e => by
  obtain ⟨k, e1, e⟩ := bnd e
  obtain ⟨S1, q1, a1⟩ := hc ρ S s k e1
  show ∃ S', ((c ρ S).bind fun p => if p.1 then m1 ρ p.2 else m2 ρ p.2) = _ ∧ _
  rw [q1]
  cases k with
  | true => obtain ⟨S2, q2, a2⟩ := ha ρ S1 (s.grow a1) a e; exact ⟨S2, q2, a1.trans a2⟩
  | false => obtain ⟨S2, q2, a2⟩ := hb ρ S1 (s.grow a1) a e; exact ⟨S2, q2, a1.trans a2⟩
theorem xe_and {ta tb : Option Bool} (ha : XE S0 sl m1 ta eB) (hb : XE S0 sl m2 tb eB) : XE S0 sl (mAndV m1 m2) (ta.bind fun k => cond k tb (some false)) eB := fun ρ S s a e => by
  obtain ⟨k, e1, e⟩ := bnd e
  obtain ⟨S1, q1, a1⟩ := ha ρ S s k e1
  unfold mAndV
  rw [q1]
  cases k with
  | true => obtain ⟨S2, q2, a2⟩ := hb ρ S1 (s.grow a1) a e; exact ⟨S2, q2, a1.trans a2⟩
  | false => cases e; exact ⟨S1, rfl, a1⟩
theorem xe_neg {ta : Option Int} (ha : XE S0 sl m1 ta eI) : XE S0 sl (mNeg m1) (ta.bind fun k => some (-k)) eI := fun ρ S s a e => by
  obtain ⟨k, e1, e⟩ := bnd e
  cases e
  obtain ⟨S1, q1, a1⟩ := ha ρ S s k e1
  exact ⟨S1, by unfold mNeg; rw [q1]; rfl, a1⟩
theorem xt_B {ta : Option Bool} (ha : XE S0 sl m1 ta eB) : XT S0 sl (mB m1) ta := fun ρ S s a e => by
  obtain ⟨S1, q1, a1⟩ := ha ρ S s a e
  exact ⟨S1, by unfold mB; rw [q1]; rfl, a1⟩
theorem xt_yes : XT S0 sl mYes (some true) := fun ρ S s a e => by cases e; exact ⟨S, rfl, .refl⟩
theorem xt_and {c d : MTst} {ta tb : Option Bool} (ha : XT S0 sl c ta) (hb : XT S0 sl d tb) : XT S0 sl (mAnd c d) (ta.bind fun k => cond k tb (some false)) := fun ρ S s a e => by
  obtain ⟨k, e1, e⟩ := bnd e
  obtain ⟨S1, q1, a1⟩ := ha ρ S s k e1
  unfold mAnd
  rw [q1]
  cases k with
  | true => obtain ⟨S2, q2, a2⟩ := hb ρ S1 (s.grow a1) a e; exact ⟨S2, q2, a1.trans a2⟩
  | false => cases e; exact ⟨S1, rfl, a1⟩
theorem xt_or {c d : MTst} {ta tb : Option Bool} (ha : XT S0 sl c ta) (hb : XT S0 sl d tb) : XT S0 sl (mOr c d) (ta.bind fun k => cond k (some true) tb) := fun ρ S s a e => by
  obtain ⟨k, e1, e⟩ := bnd e
  obtain ⟨S1, q1, a1⟩ := ha ρ S s k e1
  unfold mOr
  rw [q1]
  cases k with
  | true => cases e; exact ⟨S1, rfl, a1⟩
  | false => obtain ⟨S2, q2, a2⟩ := hb ρ S1 (s.grow a1) a e; exact ⟨S2, q2, a1.trans a2⟩
theorem xt_not {c : MTst} {ta : Option Bool} (ha : XT S0 sl c ta) : XT S0 sl (mNot c) (ta.bind fun k => some (!k)) := fun ρ S s a e => by
  obtain ⟨k, e1, e⟩ := bnd e
  cases e
  obtain ⟨S1, q1, a1⟩ := ha ρ S s k e1
  exact ⟨S1, by unfold mNot; rw [q1]; rfl, a1⟩
theorem xp_none : XP S0 sl mNoPart (some none) := fun ρ S s a e => by cases e; exact ⟨S, rfl, .refl⟩
theorem xp_some {ta : Option Int} (h : XE S0 sl m ta eI) : XP S0 sl (mPart m) (ta.bind fun k => some (some k)) := fun ρ S s a e => by
  obtain ⟨k, e1, e⟩ := bnd e
  cases e
  obtain ⟨S1, q1, a1⟩ := h ρ S s k e1
  exact ⟨S1, by unfold mPart; rw [q1]; rfl, a1⟩
def cutT {α : Type} (xs : List α) (lo hi : Option Int) : List α := (xs.drop (HT.sIx xs.length 0 lo)).take (HT.sIx xs.length xs.length hi - HT.sIx xs.length 0 lo)
theorem cutT_map {xs : List α} {lo hi : Option Int} : MS.cutD (xs.map A) lo hi = (cutT xs lo hi).map A := by
  unfold MS.cutD cutT
  rw [List.length_map, List.map_take, List.map_drop]
theorem xe_slV {p q : MPart} {tx : Option (List α)} {tp tq : Option (Option Int)} (h : XE S0 sl m tx (eV A)) (hp : XP S0 sl p tp) (hq : XP S0 sl q tq) : XE S0 sl (mSl m p q) (tx.bind fun xs => tp.bind fun l => tq.bind fun r => some (cutT xs l r)) (eV A) := fun ρ S s a e => by
  obtain ⟨xs, e1, e⟩ := bnd e
  obtain ⟨l, e2, e⟩ := bnd e
  obtain ⟨r, e3, e⟩ := bnd e
  cases e
  obtain ⟨S1, q1, a1⟩ := h ρ S s xs e1
  obtain ⟨S2, q2, a2⟩ := hp ρ S1 (s.grow a1) l e2
  obtain ⟨S3, q3, a3⟩ := hq ρ S2 (s.grow (a1.trans a2)) r e3
  refine ⟨S3, ?_, (a1.trans a2).trans a3⟩
  unfold mSl
  rw [q1]
  show ((p ρ S1).bind fun u => (q ρ u.2).bind fun v => fSl (.tup (xs.map A)) u.1 v.1 v.2) = _
  rw [q2]
  show ((q ρ S2).bind fun v => fSl (.tup (xs.map A)) l v.1 v.2) = _
  rw [q3]
  show some (D.tup (MS.cutD (xs.map A) l r), S3) = _
  rw [cutT_map]
theorem xe_slF {p q : MPart} {l r : Option Int} {f : α → β} (h : XE S0 sl m t A) (hp : XP S0 sl p (some l)) (hq : XP S0 sl q (some r)) (hE : ∀ a S, fSl (A a) l r S = some (B (f a), S)) : XE S0 sl (mSl m p q) (t.bind fun a => some (f a)) B := fun ρ S s b e => by
  obtain ⟨a, e1, e⟩ := bnd e
  cases e
  obtain ⟨S1, q1, a1⟩ := h ρ S s a e1
  obtain ⟨S2, q2, a2⟩ := hp ρ S1 (s.grow a1) l rfl
  obtain ⟨S3, q3, a3⟩ := hq ρ S2 (s.grow (a1.trans a2)) r rfl
  refine ⟨S3, ?_, (a1.trans a2).trans a3⟩
  unfold mSl
  rw [q1]
  show ((p ρ S1).bind fun u => (q ρ u.2).bind fun v => fSl (A a) u.1 v.1 v.2) = _
  rw [q2]
  show ((q ρ S2).bind fun v => fSl (A a) l v.1 v.2) = _
  rw [q3]
  exact hE a S3
theorem xe_revT {tx : Option (List α)} (h : XE S0 sl m tx (eV A)) : XE S0 sl (mRevT m) (tx.bind fun xs => some xs.reverse) (eV A) := fun ρ S s a e => by
  obtain ⟨xs, e1, e⟩ := bnd e
  cases e
  obtain ⟨S1, q1, a1⟩ := h ρ S s xs e1
  refine ⟨S1, ?_, a1⟩
  unfold mRevT
  rw [q1]
  show some (D.tup (xs.map A).reverse, S1) = some (D.tup (xs.reverse.map A), S1)
  rw [List.map_reverse]
theorem xe_tup0  {C : γ → D} (f : γ)  (hE : D.tup [] = C (f )) : XE S0 sl (mTup mNil) (some (f )) C := fun ρ S s c e => by
  cases e
  refine ⟨S, ?_, .refl⟩
  show some (D.tup [], S) = _
  rw [hE]
theorem xe_lst0  {C : γ → D} (f : γ)  (hE : D.lst [] = C (f )) : XE S0 sl (mLstV mNil) (some (f )) C := fun ρ S s c e => by
  cases e
  refine ⟨S, ?_, .refl⟩
  show some (D.lst [], S) = _
  rw [hE]
theorem xe_call1 {τ1 : Type} {n1 : MExp} {u1 : Option τ1} {E1 : τ1 → D} {F : DCall} {f : τ1 → Option γ} (h1 : XE S0 sl n1 u1 E1) (hf : ∀ x1, Gvs F [E1 x1] (f x1) C) : XE S0 sl (mCall F (mCons n1 mNil)) (u1.bind fun x1 => f x1) C := fun ρ S s c e => by
  obtain ⟨x1, e1, e⟩ := bnd e
  obtain ⟨S1, q1, a1⟩ := h1 ρ S s x1 e1
  obtain ⟨S9, q9, a9⟩ := hf x1 c e S1
  refine ⟨S9, ?_, a1.trans a9⟩
  have q : (mCons n1 mNil) ρ S = some ([E1 x1], S1) := by simp only [mCons, mNil, q1, Option.bind_some]
  unfold mCall
  rw [q]
  exact q9
theorem xe_tup1 {τ1 : Type} {n1 : MExp} {u1 : Option τ1} {E1 : τ1 → D} {C : γ → D} (f : τ1 → γ) (h1 : XE S0 sl n1 u1 E1) (hE : ∀ x1, D.tup [E1 x1] = C (f x1)) : XE S0 sl (mTup (mCons n1 mNil)) (u1.bind fun x1 => some (f x1)) C := fun ρ S s c e => by
  obtain ⟨x1, e1, e⟩ := bnd e
  cases e
  obtain ⟨S1, q1, a1⟩ := h1 ρ S s x1 e1
  refine ⟨S1, ?_, a1⟩
  have q : (mCons n1 mNil) ρ S = some ([E1 x1], S1) := by simp only [mCons, mNil, q1, Option.bind_some]
  unfold mTup
  rw [q]
  show (if ([E1 x1] : List D).length ≤ szl then some (D.tup [E1 x1], S1) else none) = _
  rw [if_pos (Nat.le_of_ble_eq_true rfl), hE]
theorem xe_lst1 {τ1 : Type} {n1 : MExp} {u1 : Option τ1} {E1 : τ1 → D} {C : γ → D} (f : τ1 → γ) (h1 : XE S0 sl n1 u1 E1) (hE : ∀ x1, D.lst [E1 x1] = C (f x1)) : XE S0 sl (mLstV (mCons n1 mNil)) (u1.bind fun x1 => some (f x1)) C := fun ρ S s c e => by
  obtain ⟨x1, e1, e⟩ := bnd e
  cases e
  obtain ⟨S1, q1, a1⟩ := h1 ρ S s x1 e1
  refine ⟨S1, ?_, a1⟩
  have q : (mCons n1 mNil) ρ S = some ([E1 x1], S1) := by simp only [mCons, mNil, q1, Option.bind_some]
  unfold mLstV
  rw [q]
  show (if ([E1 x1] : List D).length ≤ szl then some (D.lst [E1 x1], S1) else none) = _
  rw [if_pos (Nat.le_of_ble_eq_true rfl), hE]
theorem xe_call2 {τ1 : Type} {n1 : MExp} {u1 : Option τ1} {E1 : τ1 → D} {τ2 : Type} {n2 : MExp} {u2 : Option τ2} {E2 : τ2 → D} {F : DCall} {f : τ1 → τ2 → Option γ} (h1 : XE S0 sl n1 u1 E1) (h2 : XE S0 sl n2 u2 E2) (hf : ∀ x1 x2, Gvs F [E1 x1, E2 x2] (f x1 x2) C) : XE S0 sl (mCall F (mCons n1 (mCons n2 mNil))) (u1.bind fun x1 => u2.bind fun x2 => f x1 x2) C := fun ρ S s c e => by
  obtain ⟨x1, e1, e⟩ := bnd e
  obtain ⟨x2, e2, e⟩ := bnd e
  obtain ⟨S1, q1, a1⟩ := h1 ρ S s x1 e1
  obtain ⟨S2, q2, a2⟩ := h2 ρ S1 (s.grow a1) x2 e2
  obtain ⟨S9, q9, a9⟩ := hf x1 x2 c e S2
  refine ⟨S9, ?_, (a1.trans a2).trans a9⟩
  have q : (mCons n1 (mCons n2 mNil)) ρ S = some ([E1 x1, E2 x2], S2) := by simp only [mCons, mNil, q1, q2, Option.bind_some]
  unfold mCall
  rw [q]
  exact q9
theorem xe_tup2 {τ1 : Type} {n1 : MExp} {u1 : Option τ1} {E1 : τ1 → D} {τ2 : Type} {n2 : MExp} {u2 : Option τ2} {E2 : τ2 → D} {C : γ → D} (f : τ1 → τ2 → γ) (h1 : XE S0 sl n1 u1 E1) (h2 : XE S0 sl n2 u2 E2) (hE : ∀ x1 x2, D.tup [E1 x1, E2 x2] = C (f x1 x2)) : XE S0 sl (mTup (mCons n1 (mCons n2 mNil))) (u1.bind fun x1 => u2.bind fun x2 => some (f x1 x2)) C := fun ρ S s c e => by
  obtain ⟨x1, e1, e⟩ := bnd e
  obtain ⟨x2, e2, e⟩ := bnd e
  cases e
  obtain ⟨S1, q1, a1⟩ := h1 ρ S s x1 e1
  obtain ⟨S2, q2, a2⟩ := h2 ρ S1 (s.grow a1) x2 e2
  refine ⟨S2, ?_, (a1.trans a2)⟩
  have q : (mCons n1 (mCons n2 mNil)) ρ S = some ([E1 x1, E2 x2], S2) := by simp only [mCons, mNil, q1, q2, Option.bind_some]
  unfold mTup
  rw [q]
  show (if ([E1 x1, E2 x2] : List D).length ≤ szl then some (D.tup [E1 x1, E2 x2], S2) else none) = _
  rw [if_pos (Nat.le_of_ble_eq_true rfl), hE]
theorem xe_lst2 {τ1 : Type} {n1 : MExp} {u1 : Option τ1} {E1 : τ1 → D} {τ2 : Type} {n2 : MExp} {u2 : Option τ2} {E2 : τ2 → D} {C : γ → D} (f : τ1 → τ2 → γ) (h1 : XE S0 sl n1 u1 E1) (h2 : XE S0 sl n2 u2 E2) (hE : ∀ x1 x2, D.lst [E1 x1, E2 x2] = C (f x1 x2)) : XE S0 sl (mLstV (mCons n1 (mCons n2 mNil))) (u1.bind fun x1 => u2.bind fun x2 => some (f x1 x2)) C := fun ρ S s c e => by
  obtain ⟨x1, e1, e⟩ := bnd e
  obtain ⟨x2, e2, e⟩ := bnd e
  cases e
  obtain ⟨S1, q1, a1⟩ := h1 ρ S s x1 e1
  obtain ⟨S2, q2, a2⟩ := h2 ρ S1 (s.grow a1) x2 e2
  refine ⟨S2, ?_, (a1.trans a2)⟩
  have q : (mCons n1 (mCons n2 mNil)) ρ S = some ([E1 x1, E2 x2], S2) := by simp only [mCons, mNil, q1, q2, Option.bind_some]
  unfold mLstV
  rw [q]
  show (if ([E1 x1, E2 x2] : List D).length ≤ szl then some (D.lst [E1 x1, E2 x2], S2) else none) = _
  rw [if_pos (Nat.le_of_ble_eq_true rfl), hE]
theorem xe_call3 {τ1 : Type} {n1 : MExp} {u1 : Option τ1} {E1 : τ1 → D} {τ2 : Type} {n2 : MExp} {u2 : Option τ2} {E2 : τ2 → D} {τ3 : Type} {n3 : MExp} {u3 : Option τ3} {E3 : τ3 → D} {F : DCall} {f : τ1 → τ2 → τ3 → Option γ} (h1 : XE S0 sl n1 u1 E1) (h2 : XE S0 sl n2 u2 E2) (h3 : XE S0 sl n3 u3 E3) (hf : ∀ x1 x2 x3, Gvs F [E1 x1, E2 x2, E3 x3] (f x1 x2 x3) C) : XE S0 sl (mCall F (mCons n1 (mCons n2 (mCons n3 mNil)))) (u1.bind fun x1 => u2.bind fun x2 => u3.bind fun x3 => f x1 x2 x3) C := fun ρ S s c e => by
  obtain ⟨x1, e1, e⟩ := bnd e
  obtain ⟨x2, e2, e⟩ := bnd e
  obtain ⟨x3, e3, e⟩ := bnd e
  obtain ⟨S1, q1, a1⟩ := h1 ρ S s x1 e1
  obtain ⟨S2, q2, a2⟩ := h2 ρ S1 (s.grow a1) x2 e2
  obtain ⟨S3, q3, a3⟩ := h3 ρ S2 (s.grow (a1.trans a2)) x3 e3
  obtain ⟨S9, q9, a9⟩ := hf x1 x2 x3 c e S3
  refine ⟨S9, ?_, ((a1.trans a2).trans a3).trans a9⟩
  have q : (mCons n1 (mCons n2 (mCons n3 mNil))) ρ S = some ([E1 x1, E2 x2, E3 x3], S3) := by simp only [mCons, mNil, q1, q2, q3, Option.bind_some]
  unfold mCall
  rw [q]
  exact q9
theorem xe_tup3 {τ1 : Type} {n1 : MExp} {u1 : Option τ1} {E1 : τ1 → D} {τ2 : Type} {n2 : MExp} {u2 : Option τ2} {E2 : τ2 → D} {τ3 : Type} {n3 : MExp} {u3 : Option τ3} {E3 : τ3 → D} {C : γ → D} (f : τ1 → τ2 → τ3 → γ) (h1 : XE S0 sl n1 u1 E1) (h2 : XE S0 sl n2 u2 E2) (h3 : XE S0 sl n3 u3 E3) (hE : ∀ x1 x2 x3, D.tup [E1 x1, E2 x2, E3 x3] = C (f x1 x2 x3)) : XE S0 sl (mTup (mCons n1 (mCons n2 (mCons n3 mNil)))) (u1.bind fun x1 => u2.bind fun x2 => u3.bind fun x3 => some (f x1 x2 x3)) C := fun ρ S s c e => by
  obtain ⟨x1, e1, e⟩ := bnd e
  obtain ⟨x2, e2, e⟩ := bnd e
  obtain ⟨x3, e3, e⟩ := bnd e
  cases e
  obtain ⟨S1, q1, a1⟩ := h1 ρ S s x1 e1
  obtain ⟨S2, q2, a2⟩ := h2 ρ S1 (s.grow a1) x2 e2
  obtain ⟨S3, q3, a3⟩ := h3 ρ S2 (s.grow (a1.trans a2)) x3 e3
  refine ⟨S3, ?_, ((a1.trans a2).trans a3)⟩
  have q : (mCons n1 (mCons n2 (mCons n3 mNil))) ρ S = some ([E1 x1, E2 x2, E3 x3], S3) := by simp only [mCons, mNil, q1, q2, q3, Option.bind_some]
  unfold mTup
  rw [q]
  show (if ([E1 x1, E2 x2, E3 x3] : List D).length ≤ szl then some (D.tup [E1 x1, E2 x2, E3 x3], S3) else none) = _
  rw [if_pos (Nat.le_of_ble_eq_true rfl), hE]
theorem xe_tup4 {τ1 : Type} {n1 : MExp} {u1 : Option τ1} {E1 : τ1 → D} {τ2 : Type} {n2 : MExp} {u2 : Option τ2} {E2 : τ2 → D} {τ3 : Type} {n3 : MExp} {u3 : Option τ3} {E3 : τ3 → D} {τ4 : Type} {n4 : MExp} {u4 : Option τ4} {E4 : τ4 → D} {C : γ → D} (f : τ1 → τ2 → τ3 → τ4 → γ) (h1 : XE S0 sl n1 u1 E1) (h2 : XE S0 sl n2 u2 E2) (h3 : XE S0 sl n3 u3 E3) (h4 : XE S0 sl n4 u4 E4) (hE : ∀ x1 x2 x3 x4, D.tup [E1 x1, E2 x2, E3 x3, E4 x4] = C (f x1 x2 x3 x4)) : XE S0 sl (mTup (mCons n1 (mCons n2 (mCons n3 (mCons n4 mNil))))) (u1.bind fun x1 => u2.bind fun x2 => u3.bind fun x3 => u4.bind fun x4 => some (f x1 x2 x3 x4)) C := fun ρ S s c e => by
  obtain ⟨x1, e1, e⟩ := bnd e
  obtain ⟨x2, e2, e⟩ := bnd e
  obtain ⟨x3, e3, e⟩ := bnd e
  obtain ⟨x4, e4, e⟩ := bnd e
  cases e
  obtain ⟨S1, q1, a1⟩ := h1 ρ S s x1 e1
  obtain ⟨S2, q2, a2⟩ := h2 ρ S1 (s.grow a1) x2 e2
  obtain ⟨S3, q3, a3⟩ := h3 ρ S2 (s.grow (a1.trans a2)) x3 e3
  obtain ⟨S4, q4, a4⟩ := h4 ρ S3 (s.grow ((a1.trans a2).trans a3)) x4 e4
  refine ⟨S4, ?_, (((a1.trans a2).trans a3).trans a4)⟩
  have q : (mCons n1 (mCons n2 (mCons n3 (mCons n4 mNil)))) ρ S = some ([E1 x1, E2 x2, E3 x3, E4 x4], S4) := by simp only [mCons, mNil, q1, q2, q3, q4, Option.bind_some]
  unfold mTup
  rw [q]
  show (if ([E1 x1, E2 x2, E3 x3, E4 x4] : List D).length ≤ szl then some (D.tup [E1 x1, E2 x2, E3 x3, E4 x4], S4) else none) = _
  rw [if_pos (Nat.le_of_ble_eq_true rfl), hE]
theorem xe_tup6 {τ1 : Type} {n1 : MExp} {u1 : Option τ1} {E1 : τ1 → D} {τ2 : Type} {n2 : MExp} {u2 : Option τ2} {E2 : τ2 → D} {τ3 : Type} {n3 : MExp} {u3 : Option τ3} {E3 : τ3 → D} {τ4 : Type} {n4 : MExp} {u4 : Option τ4} {E4 : τ4 → D} {τ5 : Type} {n5 : MExp} {u5 : Option τ5} {E5 : τ5 → D} {τ6 : Type} {n6 : MExp} {u6 : Option τ6} {E6 : τ6 → D} {C : γ → D} (f : τ1 → τ2 → τ3 → τ4 → τ5 → τ6 → γ) (h1 : XE S0 sl n1 u1 E1) (h2 : XE S0 sl n2 u2 E2) (h3 : XE S0 sl n3 u3 E3) (h4 : XE S0 sl n4 u4 E4) (h5 : XE S0 sl n5 u5 E5) (h6 : XE S0 sl n6 u6 E6) (hE : ∀ x1 x2 x3 x4 x5 x6, D.tup [E1 x1, E2 x2, E3 x3, E4 x4, E5 x5, E6 x6] = C (f x1 x2 x3 x4 x5 x6)) : XE S0 sl (mTup (mCons n1 (mCons n2 (mCons n3 (mCons n4 (mCons n5 (mCons n6 mNil))))))) (u1.bind fun x1 => u2.bind fun x2 => u3.bind fun x3 => u4.bind fun x4 => u5.bind fun x5 => u6.bind fun x6 => some (f x1 x2 x3 x4 x5 x6)) C := fun ρ S s c e => by
  obtain ⟨x1, e1, e⟩ := bnd e
  obtain ⟨x2, e2, e⟩ := bnd e
  obtain ⟨x3, e3, e⟩ := bnd e
  obtain ⟨x4, e4, e⟩ := bnd e
  obtain ⟨x5, e5, e⟩ := bnd e
  obtain ⟨x6, e6, e⟩ := bnd e
  cases e
  obtain ⟨S1, q1, a1⟩ := h1 ρ S s x1 e1
  obtain ⟨S2, q2, a2⟩ := h2 ρ S1 (s.grow a1) x2 e2
  obtain ⟨S3, q3, a3⟩ := h3 ρ S2 (s.grow (a1.trans a2)) x3 e3
  obtain ⟨S4, q4, a4⟩ := h4 ρ S3 (s.grow ((a1.trans a2).trans a3)) x4 e4
  obtain ⟨S5, q5, a5⟩ := h5 ρ S4 (s.grow (((a1.trans a2).trans a3).trans a4)) x5 e5
  obtain ⟨S6, q6, a6⟩ := h6 ρ S5 (s.grow ((((a1.trans a2).trans a3).trans a4).trans a5)) x6 e6
  refine ⟨S6, ?_, (((((a1.trans a2).trans a3).trans a4).trans a5).trans a6)⟩
  have q : (mCons n1 (mCons n2 (mCons n3 (mCons n4 (mCons n5 (mCons n6 mNil)))))) ρ S = some ([E1 x1, E2 x2, E3 x3, E4 x4, E5 x5, E6 x6], S6) := by simp only [mCons, mNil, q1, q2, q3, q4, q5, q6, Option.bind_some]
  unfold mTup
  rw [q]
  show (if ([E1 x1, E2 x2, E3 x3, E4 x4, E5 x5, E6 x6] : List D).length ≤ szl then some (D.tup [E1 x1, E2 x2, E3 x3, E4 x4, E5 x5, E6 x6], S6) else none) = _
  rw [if_pos (Nat.le_of_ble_eq_true rfl), hE]
end
end TM
set_option Elab.async false
set_option linter.all false
set_option maxRecDepth 100000
set_option maxHeartbeats 4000000
namespace TM
open PySem PySem.Spec PyProof.Rows L2 MS
inductive Out (σ β : Type) where
  | nx (s : σ) | rt (b : β)
def Out.fin {σ β γ : Type} (f : σ → Option γ) (g : β → Option γ) : Out σ β → Option γ
  | .nx s => f s
  | .rt b => g b
def SR {β : Type} (S0 : Store) (sl : List Sl) (m : MStm) (t : Option β) (E : β → D) : Prop := ∀ ρ S, Sx S0 sl ρ S → ∀ b, t = some b → ∃ ρ' S', m ρ S = some (.rt (E b), ρ', S') ∧ All S0 S'
def SN {σ : Type} (S0 : Store) (sl : List Sl) (m : MStm) (t : Option σ) (sl' : σ → List Sl) : Prop := ∀ ρ S, Sx S0 sl ρ S → ∀ a, t = some a → ∃ ρ' S', m ρ S = some (.nx, ρ', S') ∧ Sx S0 (sl' a) ρ' S'
def OutOk {σ β : Type} (S0 : Store) (sl' : σ → List Sl) (E : β → D) (f : Fl) (ρ' : Ev) (S' : Store) : Out σ β → Prop
  | .nx s => f = .nx ∧ Sx S0 (sl' s) ρ' S'
  | .rt b => f = .rt (E b) ∧ All S0 S'
def SB {σ β : Type} (S0 : Store) (sl : List Sl) (m : MStm) (t : Option (Out σ β)) (sl' : σ → List Sl) (E : β → D) : Prop := ∀ ρ S, Sx S0 sl ρ S → ∀ o, t = some o → ∃ f ρ' S', m ρ S = some (f, ρ', S') ∧ OutOk S0 sl' E f ρ' S' o
def XO {α : Type} (S0 : Store) (sl : List Sl) (m : MExp) (t : Option (List α)) (A : α → D) : Prop := ∀ ρ S, Sx S0 sl ρ S → ∀ xs, t = some xs → ∃ n S1, m ρ S = some (.lr n, S1) ∧ All S S1 ∧ S.length ≤ n ∧ S1[n]? = some (.lst (xs.map A))
section
variable {α β γ δ σ τ : Type} {S0 : Store} {sl : List Sl} {m m1 m2 : MExp} {r s1 s2 : MStm} {A : α → D} {B : β → D} {C : γ → D} {t : Option α} {t1 : Option α} {t2 : Option β}
theorem sr_ret (h : XE S0 sl m t A) : SR S0 sl (mRet m) t A := fun ρ S s b e => by
  obtain ⟨S1, q, a⟩ := h ρ S s b e
  exact ⟨ρ, S1, by unfold mRet; rw [q]; rfl, s.all.trans a⟩
theorem sr_seqN {ts : Option σ} {sl1 : σ → List Sl} {tr : σ → Option α} (h : SN S0 sl s1 ts sl1) (hr : ∀ x, SR S0 (sl1 x) r (tr x) A) : SR S0 sl (mSeq s1 r) (ts.bind tr) A := fun ρ S s b e => by
  obtain ⟨x, e1, e⟩ := bnd e
  obtain ⟨ρ1, S1, q, s1⟩ := h ρ S s x e1
  obtain ⟨ρ2, S2, q2, a2⟩ := hr x ρ1 S1 s1 b e
  exact ⟨ρ2, S2, by unfold mSeq; rw [q]; exact q2, a2⟩
theorem sr_seqB {ts : Option (Out σ α)} {sl1 : σ → List Sl} {tr : σ → Option α} (h : SB S0 sl s1 ts sl1 A) (hr : ∀ x, SR S0 (sl1 x) r (tr x) A) : SR S0 sl (mSeq s1 r) (ts.bind fun o => o.fin tr some) A := fun ρ S s b e => by
  obtain ⟨o, e1, e⟩ := bnd e
  obtain ⟨f, ρ1, S1, q, k⟩ := h ρ S s o e1
  cases o with
  | nx x =>
    obtain ⟨rfl, s1⟩ := k
    obtain ⟨ρ2, S2, q2, a2⟩ := hr x ρ1 S1 s1 b e
    exact ⟨ρ2, S2, by unfold mSeq; rw [q]; exact q2, a2⟩
  | rt b' =>
    obtain ⟨rfl, a⟩ := k
    cases e
    exact ⟨ρ1, S1, by unfold mSeq; rw [q]; rfl, a⟩
theorem seq_nx {c : MTst} {ρ : Ev} {S S1 : Store} {k : Bool} (q : c ρ S = some (k, S1)) : mSeq (mIfS c s1 mNx) r ρ S = cond k (mSeq s1 r ρ S1) (r ρ S1) := by
  unfold mSeq mIfS
  rw [q]
  cases k <;> rfl
theorem rt_seq {ρ ρ' : Ev} {S S' : Store} {d : D} (h : s1 ρ S = some (.rt d, ρ', S')) : mSeq s1 r ρ S = some (.rt d, ρ', S') := by unfold mSeq; rw [h]; rfl
theorem sr_ifr {c : MTst} {tc : Option Bool} {ta tb : Option α} (hc : XT S0 sl c tc) (ha : SR S0 sl s1 ta A) (hb : SR S0 sl r tb A) : SR S0 sl (mSeq (mIfS c s1 mNx) r) (tc.bind fun k => cond k ta tb) A := fun ρ S s b e => by
  obtain ⟨k, e1, e⟩ := bnd e
  obtain ⟨S1, q, a1⟩ := hc ρ S s k e1
  rw [seq_nx q]
  cases k with
  | true =>
    obtain ⟨ρ2, S2, q2, a2⟩ := ha ρ S1 (s.grow a1) b e
    exact ⟨ρ2, S2, rt_seq q2, a2⟩
  | false => exact hb ρ S1 (s.grow a1) b e
theorem sn_nx : SN S0 sl mNx (some ()) (fun _ => sl) := fun ρ S s a e => ⟨ρ, S, rfl, s⟩
theorem sn_seq {ts : Option σ} {sl1 : σ → List Sl} {tr : σ → Option τ} {sl' : τ → List Sl} (h : SN S0 sl s1 ts sl1) (hr : ∀ x, SN S0 (sl1 x) r (tr x) sl') : SN S0 sl (mSeq s1 r) (ts.bind tr) sl' := fun ρ S s b e => by
  obtain ⟨x, e1, e⟩ := bnd e
  obtain ⟨ρ1, S1, q, s1⟩ := h ρ S s x e1
  obtain ⟨ρ2, S2, q2, a2⟩ := hr x ρ1 S1 s1 b e
  exact ⟨ρ2, S2, by unfold mSeq; rw [q]; exact q2, a2⟩
theorem sn_asg {i : Nat} (h : XE S0 sl m t A) : SN S0 sl (mAsg m (mName i)) t (fun a => sl.set i (.val (A a))) := fun ρ S s a e => by
  obtain ⟨S1, q, a1⟩ := h ρ S s a e
  exact ⟨_, S1, by unfold mAsg; rw [q]; rfl, (s.grow a1).set⟩
theorem sn_asgG {g : MTg} {sl1 : α → List Sl} (h : XE S0 sl m t A) (hg : ∀ a, XG S0 sl g (A a) (sl1 a)) : SN S0 sl (mAsg m g) t sl1 := fun ρ S s a e => by
  obtain ⟨S1, q, a1⟩ := h ρ S s a e
  obtain ⟨ρ1, q1, s1⟩ := hg a ρ S1 (s.grow a1)
  exact ⟨ρ1, S1, by unfold mAsg; rw [q]; show ((g (A a) ρ S1).bind _) = _; rw [q1]; rfl, s1⟩
theorem sn_own {i : Nat} {tx : Option (List α)} (h : XO S0 sl m tx A) : SN S0 sl (mAsg m (mName i)) tx (fun xs => sl.set i (.own (xs.map A))) := fun ρ S s a e => by
  obtain ⟨n, S1, q, a1, hn, hg⟩ := h ρ S s a e
  exact ⟨_, _, by unfold mAsg; rw [q]; rfl, s.new a1 hn hg⟩
theorem sn_st {ts : Option σ} {sl1 : σ → List Sl} {f : σ → τ} {sl' : τ → List Sl} (h : SN S0 sl s1 ts sl1) (hk : ∀ x, Wk (sl1 x) (sl' (f x))) : SN S0 sl s1 (ts.bind fun x => some (f x)) sl' := fun ρ S s b e => by
  obtain ⟨x, e1, e⟩ := bnd e
  cases e
  obtain ⟨ρ1, S1, q, k⟩ := h ρ S s x e1
  exact ⟨ρ1, S1, q, k.wk (hk x)⟩
theorem sn_if {c : MTst} {tc : Option Bool} {ta tb : Option σ} {sl' : σ → List Sl} (hc : XT S0 sl c tc) (ha : SN S0 sl s1 ta sl') (hb : SN S0 sl s2 tb sl') : SN S0 sl (mIfS c s1 s2) (tc.bind fun k => cond k ta tb) sl' := fun ρ S s b e => by
  obtain ⟨k, e1, e⟩ := bnd e
  obtain ⟨S1, q, a1⟩ := hc ρ S s k e1
  unfold mIfS
  rw [q]
  cases k with
  | true => exact ha ρ S1 (s.grow a1) b e
  | false => exact hb ρ S1 (s.grow a1) b e
def pushM {α : Type} (xs : List α) (a : α) : Option (List α) := cond (Nat.blt xs.length 16777216) (some (xs ++ [a])) none
theorem pushM_some {xs ys : List α} {a : α} (h : pushM xs a = some ys) : xs.length < szl ∧ ys = xs ++ [a] := by
  unfold pushM at h
  cases k : Nat.blt xs.length 16777216 with
  | true => rw [k] at h; cases h; exact ⟨by show xs.length < 16777216; simpa [Nat.blt_eq] using k, rfl⟩
  | false => rw [k] at h; cases h
theorem sn_app {i : Nat} {xs : List α} (h : sl[i]? = some (.own (xs.map A))) (he : XE S0 sl m t A) : SN S0 sl (mDrop (mApp (mVar i) (mCons m mNil))) (t.bind fun a => pushM xs a) (fun ys => sl.set i (.own (ys.map A))) := fun ρ S s ys e => by
  obtain ⟨a, e1, e⟩ := bnd e
  obtain ⟨hz, rfl⟩ := pushM_some e
  obtain ⟨S1, q, a1⟩ := he ρ S s a e1
  obtain ⟨k, k1, k2, k3⟩ := s.own i _ h
  have k2' := a1 _ _ k2
  refine ⟨ρ, S1.set k (.lst ((xs ++ [a]).map A)), ?_, (s.grow a1).wr h k1⟩
  unfold mDrop mApp
  have e1 : mVar i ρ S = some (.lr k, S) := by unfold mVar; rw [k1]
  rw [e1]
  show ((((mat S k).bind fun _ => (mCons m mNil ρ S).bind fun q => match q.1 with
    | [d] => (mat q.2 k).bind fun ds => if ds.length < szl then some (D.non, q.2.set k (.lst (ds ++ [d]))) else none
    | _ => none)).bind fun p => some (Fl.nx, ρ, p.2)) = _
  rw [mat_lst k2]
  have e2 : mCons m mNil ρ S = some ([A a], S1) := by simp only [mCons, mNil, q, Option.bind_some]
  show (((mCons m mNil ρ S).bind fun q => match q.1 with
    | [d] => (mat q.2 k).bind fun ds => if ds.length < szl then some (D.non, q.2.set k (.lst (ds ++ [d]))) else none
    | _ => none).bind fun p => some (Fl.nx, ρ, p.2)) = _
  rw [e2]
  show (((mat S1 k).bind fun ds => if ds.length < szl then some (D.non, S1.set k (.lst (ds ++ [A a]))) else none).bind fun p => some (Fl.nx, ρ, p.2)) = _
  rw [mat_lst k2']
  show ((if (xs.map A).length < szl then some (D.non, S1.set k (.lst (xs.map A ++ [A a]))) else none).bind fun p => some (Fl.nx, ρ, p.2)) = _
  rw [List.length_map, if_pos hz, List.map_append]
  rfl
def extM {α : Type} (xs ys : List α) : Option (List α) := cond (Nat.ble (xs.length + ys.length) 16777216) (some (xs ++ ys)) none
theorem extM_some {xs ys zs : List α} (h : extM xs ys = some zs) : xs.length + ys.length ≤ szl ∧ zs = xs ++ ys := by
  unfold extM at h
  cases k : Nat.ble (xs.length + ys.length) 16777216 with
  | true => rw [k] at h; cases h; exact ⟨Nat.le_of_ble_eq_true k, rfl⟩
  | false => rw [k] at h; cases h
theorem sn_ext {i : Nat} {xs : List α} {ty : Option (List α)} (h : sl[i]? = some (.own (xs.map A))) (he : XE S0 sl m ty (eL A)) : SN S0 sl (mDrop (mExtV (mVar i) (mCons m mNil))) (ty.bind fun a => extM xs a) (fun ys => sl.set i (.own (ys.map A))) := fun ρ S s ys e => by
  obtain ⟨a, e1, e⟩ := bnd e
  obtain ⟨hz, rfl⟩ := extM_some e
  obtain ⟨S1, q, a1⟩ := he ρ S s a e1
  obtain ⟨k, k1, k2, k3⟩ := s.own i _ h
  have k2' := a1 _ _ k2
  refine ⟨ρ, S1.set k (.lst ((xs ++ a).map A)), ?_, (s.grow a1).wr h k1⟩
  unfold mDrop mExtV
  have e1 : mVar i ρ S = some (.lr k, S) := by unfold mVar; rw [k1]
  rw [e1]
  show (((mat S k).bind fun _ => (mCons m mNil ρ S).bind fun q => match q.1 with
    | [.lst es] => (mat q.2 k).bind fun ds => if ds.length + es.length ≤ szl then some (D.non, q.2.set k (.lst (ds ++ es))) else none
    | _ => none).bind fun p => some (Fl.nx, ρ, p.2)) = _
  rw [mat_lst k2]
  have e2 : mCons m mNil ρ S = some ([eL A a], S1) := by simp only [mCons, mNil, q, Option.bind_some]
  show (((mCons m mNil ρ S).bind fun q => match q.1 with
    | [.lst es] => (mat q.2 k).bind fun ds => if ds.length + es.length ≤ szl then some (D.non, q.2.set k (.lst (ds ++ es))) else none
    | _ => none).bind fun p => some (Fl.nx, ρ, p.2)) = _
  rw [e2]
  show (((mat S1 k).bind fun ds => if ds.length + (a.map A).length ≤ szl then some (D.non, S1.set k (.lst (ds ++ a.map A))) else none).bind fun p => some (Fl.nx, ρ, p.2)) = _
  rw [mat_lst k2']
  show ((if (xs.map A).length + (a.map A).length ≤ szl then some (D.non, S1.set k (.lst (xs.map A ++ a.map A))) else none).bind fun p => some (Fl.nx, ρ, p.2)) = _
  rw [List.length_map, List.length_map, if_pos hz, List.map_append]
  rfl
theorem xo_of {S1 : Store} {ρ : Ev} {S : Store} {xs : List α} (q : m ρ S = some (.lr S1.length, S1 ++ [.lst (xs.map A)])) (a : All S S1) : ∃ n S2, m ρ S = some (.lr n, S2) ∧ All S S2 ∧ S.length ≤ n ∧ S2[n]? = some (.lst (xs.map A)) := ⟨_, _, q, a.trans .app, a.len, get_new⟩
theorem xo_nil : XO S0 sl (mLst mNil) (some ([] : List α)) A := fun ρ S s xs e => by cases e; exact xo_of (S1 := S) rfl .refl
theorem sb_R {sl' : σ → List Sl} (h : SR S0 sl r t A) : SB S0 sl r (t.bind fun b => some (Out.rt b)) sl' A := fun ρ S s o e => by
  obtain ⟨b, e1, e⟩ := bnd e
  cases e
  obtain ⟨ρ1, S1, q, a⟩ := h ρ S s b e1
  exact ⟨_, ρ1, S1, q, rfl, a⟩
theorem sb_N {ts : Option σ} {sl' : σ → List Sl} (h : SN S0 sl r ts sl') : SB S0 sl r (ts.bind fun b => some (Out.nx b)) sl' A := fun ρ S s o e => by
  obtain ⟨b, e1, e⟩ := bnd e
  cases e
  obtain ⟨ρ1, S1, q, a⟩ := h ρ S s b e1
  exact ⟨_, ρ1, S1, q, rfl, a⟩
theorem sb_seqN {ts : Option σ} {sl1 : σ → List Sl} {tr : σ → Option (Out τ α)} {sl' : τ → List Sl} (h : SN S0 sl s1 ts sl1) (hr : ∀ x, SB S0 (sl1 x) r (tr x) sl' A) : SB S0 sl (mSeq s1 r) (ts.bind tr) sl' A := fun ρ S s b e => by
  obtain ⟨x, e1, e⟩ := bnd e
  obtain ⟨ρ1, S1, q, s1⟩ := h ρ S s x e1
  obtain ⟨f, ρ2, S2, q2, a2⟩ := hr x ρ1 S1 s1 b e
  exact ⟨f, ρ2, S2, by unfold mSeq; rw [q]; exact q2, a2⟩
theorem sb_if {c : MTst} {tc : Option Bool} {ta tb : Option (Out σ α)} {sl' : σ → List Sl} (hc : XT S0 sl c tc) (ha : SB S0 sl s1 ta sl' A) (hb : SB S0 sl s2 tb sl' A) : SB S0 sl (mIfS c s1 s2) (tc.bind fun k => cond k ta tb) sl' A := fun ρ S s b e => by
  obtain ⟨k, e1, e⟩ := bnd e
  obtain ⟨S1, q, a1⟩ := hc ρ S s k e1
  unfold mIfS
  rw [q]
  cases k with
  | true => exact ha ρ S1 (s.grow a1) b e
  | false => exact hb ρ S1 (s.grow a1) b e
theorem sb_ifr {c : MTst} {tc : Option Bool} {ta : Option α} {tb : Option (Out σ α)} {sl' : σ → List Sl} (hc : XT S0 sl c tc) (ha : SR S0 sl s1 ta A) (hb : SB S0 sl r tb sl' A) : SB S0 sl (mSeq (mIfS c s1 mNx) r) (tc.bind fun k => cond k (ta.bind fun b => some (Out.rt b)) tb) sl' A := fun ρ S s o e => by
  obtain ⟨k, e1, e⟩ := bnd e
  obtain ⟨S1, q, a1⟩ := hc ρ S s k e1
  rw [seq_nx q]
  cases k with
  | true =>
    obtain ⟨b, e2, e⟩ := bnd e
    cases e
    obtain ⟨ρ2, S2, q2, a2⟩ := ha ρ S1 (s.grow a1) b e2
    exact ⟨_, ρ2, S2, rt_seq q2, rfl, a2⟩
  | false => exact hb ρ S1 (s.grow a1) o e
theorem sb_st {ts : Option (Out σ α)} {sl1 : σ → List Sl} {f : σ → τ} {sl' : τ → List Sl} (h : SB S0 sl s1 ts sl1 A) (hk : ∀ x, Wk (sl1 x) (sl' (f x))) : SB S0 sl s1 (ts.bind fun o => o.fin (fun x => some (Out.nx (f x))) fun b => some (Out.rt b)) sl' A := fun ρ S s o2 e => by
  obtain ⟨o, e1, e⟩ := bnd e
  obtain ⟨f, ρ1, S1, q, k⟩ := h ρ S s o e1
  cases o with
  | nx x =>
    cases e
    obtain ⟨rfl, s1⟩ := k
    exact ⟨_, ρ1, S1, q, rfl, s1.wk (hk x)⟩
  | rt b' =>
    cases e
    exact ⟨_, ρ1, S1, q, k⟩
theorem xg_name {i : Nat} {d : D} : XG S0 sl (mName i) d (sl.set i (.val d)) := fun ρ S s => ⟨_, rfl, s.set⟩
theorem xgs_nil : XGs S0 sl mgNil [] sl := fun ρ S s => ⟨ρ, rfl, s⟩
theorem xgs_cons {g : MTg} {gs : MTgs} {d : D} {ds : List D} {sl1 sl2 : List Sl} (h : XG S0 sl g d sl1) (hr : XGs S0 sl1 gs ds sl2) : XGs S0 sl (mgCons g gs) (d :: ds) sl2 := fun ρ S s => by
  obtain ⟨ρ1, q1, s1⟩ := h ρ S s
  obtain ⟨ρ2, q2, s2⟩ := hr ρ1 S s1
  exact ⟨ρ2, by show ((g d ρ S).bind fun p => gs ds p.1 p.2) = _; rw [q1]; exact q2, s2⟩
theorem xg_tup {gs : MTgs} {ds : List D} {n : Nat} {sl1 : List Sl} (h : XGs S0 sl gs ds sl1) (hn : ds.length = n) : XG S0 sl (mgTup gs n) (.tup ds) sl1 := fun ρ S s => by
  obtain ⟨ρ1, q1, s1⟩ := h ρ S s
  exact ⟨ρ1, by show (if ds.length = n then gs ds ρ S else none) = _; rw [if_pos hn]; exact q1, s1⟩
theorem xi_V {tx : Option (List α)} (h : XE S0 sl m tx (eV A)) : XI S0 sl (mItems m) tx A := fun ρ S s xs e => by
  obtain ⟨S1, q, a1⟩ := h ρ S s xs e
  exact ⟨S1, by unfold mItems; rw [q]; rfl, a1⟩
theorem xi_L {tx : Option (List α)} (h : XE S0 sl m tx (eL A)) : XI S0 sl (mItems m) tx A := fun ρ S s xs e => by
  obtain ⟨S1, q, a1⟩ := h ρ S s xs e
  exact ⟨S1, by unfold mItems; rw [q]; rfl, a1⟩
def rangeI (lo : Int) (n : Nat) : List Int := (List.range n).map fun i : Nat => lo + (i : Int)
theorem rangeI_map {lo : Int} {n : Nat} : rangeD lo n = (rangeI lo n).map eI := by
  unfold rangeD rangeI
  rw [List.map_map]
  rfl
def rng1 (j : Int) : Option (List Int) := cond (r62 j) (some (rangeI 0 j.toNat)) none
def rng2 (i j : Int) : Option (List Int) := cond (r62 i && r62 j) (some (rangeI i (j - i).toNat)) none
theorem xi_range1 {tj : Option Int} (h : XE S0 sl m tj eI) : XI S0 sl (mRange1 (mCons m mNil)) (tj.bind fun j => rng1 j) eI := fun ρ S s xs e => by
  obtain ⟨j, e1, e⟩ := bnd e
  obtain ⟨S1, q, a1⟩ := h ρ S s j e1
  have e2 : mCons m mNil ρ S = some ([eI j], S1) := by simp only [mCons, mNil, q, Option.bind_some]
  refine ⟨S1, ?_, a1⟩
  unfold mRange1
  rw [e2]
  unfold rng1 at e
  cases k : r62 j with
  | true =>
    rw [k] at e
    cases e
    show (if r62 j = true then some ((rangeD 0 j.toNat, always), S1) else none) = _
    rw [if_pos k, rangeI_map]
  | false => rw [k] at e; cases e
theorem xi_range2 {ti tj : Option Int} (h1 : XE S0 sl m1 ti eI) (h2 : XE S0 sl m2 tj eI) : XI S0 sl (mRange2 (mCons m1 (mCons m2 mNil))) (ti.bind fun i => tj.bind fun j => rng2 i j) eI := fun ρ S s xs e => by
  obtain ⟨i, e1, e⟩ := bnd e
  obtain ⟨j, e2, e⟩ := bnd e
  obtain ⟨S1, q1, a1⟩ := h1 ρ S s i e1
  obtain ⟨S2, q2, a2⟩ := h2 ρ S1 (s.grow a1) j e2
  have e2 : mCons m1 (mCons m2 mNil) ρ S = some ([eI i, eI j], S2) := by simp only [mCons, mNil, q1, q2, Option.bind_some]
  refine ⟨S2, ?_, a1.trans a2⟩
  unfold mRange2
  rw [e2]
  unfold rng2 at e
  cases k : (r62 i && r62 j) with
  | true =>
    rw [k] at e
    cases e
    show (if (r62 i && r62 j) = true then some ((rangeD i (j - i).toNat, always), S2) else none) = _
    rw [if_pos k, rangeI_map]
  | false => rw [k] at e; cases e
def enumI {α : Type} (xs : List α) : List (Int × α) := xs.mapIdx fun i a => ((i : Int), a)
theorem enumI_map {xs : List α} : enumD (xs.map A) = (enumI xs).map (eT2 eI A) := by
  unfold enumD enumI
  refine List.ext_getElem? fun i => ?_
  rw [List.getElem?_mapIdx, List.getElem?_map, List.getElem?_map, List.getElem?_mapIdx]
  cases xs[i]? <;> rfl
theorem xi_enumV {tx : Option (List α)} (h : XE S0 sl m tx (eV A)) : XI S0 sl (mEnum (mCons m mNil)) (tx.bind fun xs => some (enumI xs)) (eT2 eI A) := fun ρ S s xs e => by
  obtain ⟨ys, e1, e⟩ := bnd e
  cases e
  obtain ⟨S1, q, a1⟩ := h ρ S s ys e1
  have e2 : mCons m mNil ρ S = some ([eV A ys], S1) := by simp only [mCons, mNil, q, Option.bind_some]
  refine ⟨S1, ?_, a1⟩
  unfold mEnum
  rw [e2]
  show some ((enumD (ys.map A), always), S1) = _
  rw [enumI_map]
theorem xi_enumL {tx : Option (List α)} (h : XE S0 sl m tx (eL A)) : XI S0 sl (mEnum (mCons m mNil)) (tx.bind fun xs => some (enumI xs)) (eT2 eI A) := fun ρ S s xs e => by
  obtain ⟨ys, e1, e⟩ := bnd e
  cases e
  obtain ⟨S1, q, a1⟩ := h ρ S s ys e1
  have e2 : mCons m mNil ρ S = some ([eL A ys], S1) := by simp only [mCons, mNil, q, Option.bind_some]
  refine ⟨S1, ?_, a1⟩
  unfold mEnum
  rw [e2]
  show some ((enumD (ys.map A), always), S1) = _
  rw [enumI_map]
def loopN {α σ : Type} (f : α → σ → Option σ) : List α → σ → Option σ
  | [], s => some s
  | x :: xs, s => (f x s).bind fun s' => loopN f xs s'
def loopR {α σ β : Type} (f : α → σ → Option (Out σ β)) : List α → σ → Option (Out σ β)
  | [], s => some (.nx s)
  | x :: xs, s => (f x s).bind fun o => o.fin (fun s' => loopR f xs s') fun b => some (.rt b)
def stepL (g : MTg) (b : MStm) (r : List D) : Fl → Ev → Store → Option (Fl × Ev × Store)
  | .nx, ρ, S => forL always g b r ρ S
  | .ct, ρ, S => forL always g b r ρ S
  | .bk, ρ, S => some (.nx, ρ, S)
  | .rt d, ρ, S => some (.rt d, ρ, S)
theorem forL_cons {g : MTg} {b : MStm} {x : D} {r : List D} {ρ ρ1 ρ2 : Ev} {S S1 S2 : Store} {f : Fl} (q1 : g x ρ S = some (ρ1, S1)) (q2 : b ρ1 S1 = some (f, ρ2, S2)) : forL always g b (x :: r) ρ S = stepL g b r f ρ2 S2 := by
  show (if always S = true then (g x ρ S).bind fun p => (b p.1 p.2).bind fun q => (match q.1 with
    | .nx => forL always g b r q.2.1 q.2.2
    | .ct => forL always g b r q.2.1 q.2.2
    | .bk => some (.nx, q.2.1, q.2.2)
    | .rt d => some (.rt d, q.2.1, q.2.2)) else none) = _
  rw [if_pos (show always S = true from rfl), q1]
  show ((b ρ1 S1).bind fun q => (match q.1 with
    | .nx => forL always g b r q.2.1 q.2.2
    | .ct => forL always g b r q.2.1 q.2.2
    | .bk => some (.nx, q.2.1, q.2.2)
    | .rt d => some (.rt d, q.2.1, q.2.2))) = _
  rw [q2]
  cases f <;> rfl
theorem sn_for {i : MItr} {g : MTg} {b : MStm} {ti : Option (List α)} {tb : α → σ → Option σ} {s0 : σ} {slσ : σ → List Sl} {slg : σ → α → List Sl} (hi : XI S0 sl i ti A) (hw : Wk sl (slσ s0)) (hg : ∀ s a, XG S0 (slσ s) g (A a) (slg s a)) (hb : ∀ s a, SN S0 (slg s a) b (tb a s) slσ) :
    SN S0 sl (mFor i g b) (ti.bind fun xs => loopN tb xs s0) slσ := fun ρ S s s' e => by
  obtain ⟨xs, e1, e⟩ := bnd e
  obtain ⟨S1, q, a1⟩ := hi ρ S s xs e1
  have go : ∀ (xs : List α) (s0 : σ) (ρ : Ev) (S : Store), Sx S0 (slσ s0) ρ S → loopN tb xs s0 = some s' → ∃ ρ' S', forL always g b (xs.map A) ρ S = some (.nx, ρ', S') ∧ Sx S0 (slσ s') ρ' S' := by
    intro xs
    induction xs with
    | nil => intro s0 ρ S k e; cases e; exact ⟨ρ, S, rfl, k⟩
    | cons x xs ih =>
      intro s0 ρ S k e
      obtain ⟨s1, e2, e⟩ := bnd e
      obtain ⟨ρ1, q1, k1⟩ := hg s0 x ρ S k
      obtain ⟨ρ2, S2, q2, k2⟩ := hb s0 x ρ1 S k1 s1 e2
      obtain ⟨ρ3, S3, q3, k3⟩ := ih s1 ρ2 S2 k2 e
      exact ⟨ρ3, S3, by rw [List.map_cons, forL_cons q1 q2]; exact q3, k3⟩
  obtain ⟨ρ', S', q2, k2⟩ := go xs s0 ρ S1 ((s.grow a1).wk hw) e
  exact ⟨ρ', S', by unfold mFor; rw [q]; exact q2, k2⟩
theorem sb_for {i : MItr} {g : MTg} {b : MStm} {ti : Option (List α)} {tb : α → σ → Option (Out σ β)} {s0 : σ} {slσ : σ → List Sl} {slg : σ → α → List Sl} (hi : XI S0 sl i ti A) (hw : Wk sl (slσ s0)) (hg : ∀ s a, XG S0 (slσ s) g (A a) (slg s a)) (hb : ∀ s a, SB S0 (slg s a) b (tb a s) slσ B) :
    SB S0 sl (mFor i g b) (ti.bind fun xs => loopR tb xs s0) slσ B := fun ρ S s o e => by
  obtain ⟨xs, e1, e⟩ := bnd e
  obtain ⟨S1, q, a1⟩ := hi ρ S s xs e1
  have go : ∀ (xs : List α) (s0 : σ) (ρ : Ev) (S : Store), Sx S0 (slσ s0) ρ S → loopR tb xs s0 = some o → ∃ f ρ' S', forL always g b (xs.map A) ρ S = some (f, ρ', S') ∧ OutOk S0 slσ B f ρ' S' o := by
    intro xs
    induction xs with
    | nil => intro s0 ρ S k e; cases e; exact ⟨_, ρ, S, rfl, rfl, k⟩
    | cons x xs ih =>
      intro s0 ρ S k e
      obtain ⟨o1, e2, e⟩ := bnd e
      obtain ⟨ρ1, q1, k1⟩ := hg s0 x ρ S k
      obtain ⟨f2, ρ2, S2, q2, k2⟩ := hb s0 x ρ1 S k1 o1 e2
      have un : forL always g b ((x :: xs).map A) ρ S = stepL g b (xs.map A) f2 ρ2 S2 := by rw [List.map_cons, forL_cons q1 q2]
      cases o1 with
      | nx s1 =>
        obtain ⟨rfl, k2⟩ := k2
        obtain ⟨f3, ρ3, S3, q3, k3⟩ := ih s1 ρ2 S2 k2 e
        exact ⟨f3, ρ3, S3, by rw [un]; exact q3, k3⟩
      | rt b' =>
        cases e
        obtain ⟨rfl, k2⟩ := k2
        exact ⟨_, ρ2, S2, by rw [un]; rfl, rfl, k2⟩
  obtain ⟨f, ρ', S', q2, k2⟩ := go xs s0 ρ S1 ((s.grow a1).wk hw) e
  exact ⟨f, ρ', S', by unfold mFor; rw [q]; exact q2, k2⟩
def whileT {σ : Type} (c : σ → Option Bool) (b : σ → Option σ) : Nat → σ → Option σ
  | 0, _ => none
  | n + 1, s => (c s).bind fun k => cond k ((b s).bind fun s' => whileT c b n s') (some s)
def compGo {α β : Type} (c : α → Option Bool) (f : α → Option β) : List α → Option (List β)
  | [] => some []
  | x :: xs => (c x).bind fun k => cond k ((f x).bind fun y => (compGo c f xs).bind fun ys => some (y :: ys)) (compGo c f xs)
def compM {α β : Type} (c : α → Option Bool) (f : α → Option β) (xs : List α) : Option (List β) := cond (Nat.ble xs.length 16777216) (compGo c f xs) none
theorem compM_some {c : α → Option Bool} {f : α → Option β} {xs : List α} {ys : List β} (h : compM c f xs = some ys) : xs.length ≤ szl ∧ compGo c f xs = some ys := by
  unfold compM at h
  cases k : Nat.ble xs.length 16777216 with
  | true => rw [k] at h; exact ⟨Nat.le_of_ble_eq_true k, h⟩
  | false => rw [k] at h; cases h
theorem xe_lc {i : MItr} {g : MTg} {c : MTst} {e : MExp} {vs : List Nat} {ti : Option (List α)} {tc : α → Option Bool} {te : α → Option β} {slg : α → List Sl} (hi : XI S0 sl i ti A) (hg : ∀ a, XG S0 (wipeS sl vs) g (A a) (slg a)) (hc : ∀ a, XT S0 (slg a) c (tc a)) (he : ∀ a, XE S0 (slg a) e (te a) B) :
    XE S0 sl (mFz (mLc i g c e vs)) (ti.bind fun xs => compM tc te xs) (eL B) := fun ρ S s ys eq => by
  obtain ⟨xs, e1, eq⟩ := bnd eq
  obtain ⟨hz, eq⟩ := compM_some eq
  obtain ⟨S1, q, a1⟩ := hi ρ S s xs e1
  have s1 := (s.grow a1).wipe vs
  have go : ∀ (xs : List α) (ys acc : List β) (T : Store), All S1 T → T[S1.length]? = some (.lst (acc.map B)) → acc.length + xs.length ≤ szl → compGo tc te xs = some ys →
      ∃ T', lcL always g c e (wipeD ρ vs) S1.length (xs.map A) T = some T' ∧ All S1 T' ∧ T'[S1.length]? = some (.lst ((acc ++ ys).map B)) := by
    intro xs
    induction xs with
    | nil => intro ys acc T a h hz eq; cases eq; exact ⟨T, rfl, a, by rw [List.append_nil]; exact h⟩
    | cons x xs ih =>
      intro ys acc T a h hz eq
      obtain ⟨k, e2, eq⟩ := bnd eq
      obtain ⟨ρ1, q1, k1⟩ := hg x (wipeD ρ vs) T (s1.grow a)
      obtain ⟨T2, q2, a2⟩ := hc x ρ1 T k1 k e2
      have hl : acc.length + (xs.length + 1) ≤ szl := hz
      have un : lcL always g c e (wipeD ρ vs) S1.length ((x :: xs).map A) T = (if k = true then (e ρ1 T2).bind fun y => (mat y.2 S1.length).bind fun acc =>
          if acc.length < szl then lcL always g c e (wipeD ρ vs) S1.length (xs.map A) (y.2.set S1.length (.lst (acc ++ [y.1]))) else none
        else lcL always g c e (wipeD ρ vs) S1.length (xs.map A) T2) := by
        show (if always T = true then (g (A x) (wipeD ρ vs) T).bind fun p => (c p.1 p.2).bind fun k => if k.1 then (e p.1 k.2).bind fun y => (mat y.2 S1.length).bind fun acc =>
            if acc.length < szl then lcL always g c e (wipeD ρ vs) S1.length (xs.map A) (y.2.set S1.length (.lst (acc ++ [y.1]))) else none
          else lcL always g c e (wipeD ρ vs) S1.length (xs.map A) k.2 else none) = _
        rw [if_pos (show always T = true from rfl), q1]
        show ((c ρ1 T).bind fun k => if k.1 then (e ρ1 k.2).bind fun y => (mat y.2 S1.length).bind fun acc =>
            if acc.length < szl then lcL always g c e (wipeD ρ vs) S1.length (xs.map A) (y.2.set S1.length (.lst (acc ++ [y.1]))) else none
          else lcL always g c e (wipeD ρ vs) S1.length (xs.map A) k.2) = _
        rw [q2]
        rfl
      cases k with
      | true =>
        obtain ⟨y, e3, eq⟩ := bnd eq
        obtain ⟨zs, e4, eq⟩ := bnd eq
        cases eq
        obtain ⟨T3, q3, a3⟩ := he x ρ1 T2 (k1.grow a2) y e3
        have h3 := a3 _ _ (a2 _ _ h)
        obtain ⟨T4, q4, a4, h4⟩ := ih zs (acc ++ [y]) (T3.set S1.length (.lst ((acc ++ [y]).map B))) (((a.trans a2).trans a3).wr (Nat.le_refl _)) (get_set h3) (by rw [List.length_append, List.length_singleton]; omega) e4
        refine ⟨T4, ?_, a4, by rw [h4, List.append_assoc]; rfl⟩
        rw [un, if_pos rfl, q3]
        show ((mat T3 S1.length).bind fun acc => if acc.length < szl then lcL always g c e (wipeD ρ vs) S1.length (xs.map A) (T3.set S1.length (.lst (acc ++ [B y]))) else none) = _
        rw [mat_lst h3]
        show (if (acc.map B).length < szl then lcL always g c e (wipeD ρ vs) S1.length (xs.map A) (T3.set S1.length (.lst (acc.map B ++ [B y]))) else none) = _
        rw [List.length_map, if_pos (by omega)]
        rw [List.map_append] at q4
        exact q4
      | false =>
        obtain ⟨T4, q4, a4, h4⟩ := ih ys acc T2 (a.trans a2) (a2 _ _ h) (by omega) eq
        exact ⟨T4, by rw [un]; exact q4, a4, h4⟩
  obtain ⟨T, q2, a2, h2⟩ := go xs ys [] (S1 ++ [.lst []]) .app get_new (by rw [List.length_nil, Nat.zero_add]; exact hz) eq
  refine ⟨T.set S1.length .gone, ?_, a1.trans (a2.wr (Nat.le_refl _))⟩
  have e5 : mLc i g c e vs ρ S = some (.lr S1.length, T) := by
    unfold mLc
    rw [q]
    show ((lcL always g c e (wipeD ρ vs) S1.length (xs.map A) (S1 ++ [.lst []])).bind fun S2 => some (D.lr S1.length, S2)) = _
    rw [q2]
    rfl
  unfold mFz
  rw [e5]
  show fzD T (.lr S1.length) = _
  unfold fzD
  simp only [h2, List.nil_append]
theorem sx_start {S : Store} {ds : List D} {n : Nat} : Sx S (ds.map Sl.val ++ List.replicate (n - ds.length) Sl.unk) (startD n ds) S := by
  unfold startD
  refine ⟨.refl, by simp, fun i d h => ?_, fun i es h => ?_, fun i j es fs g h => ?_⟩
  · by_cases hi : i < ds.length
    · rw [List.getElem?_append_left (by rw [List.length_map]; exact hi), List.getElem?_map] at h
      rw [List.getElem?_append_left (by rw [List.length_map]; exact hi), List.getElem?_map]
      obtain ⟨x, h1, h2⟩ := Option.map_eq_some_iff.mp h
      cases h2
      rw [h1]; rfl
    · rw [List.getElem?_append_right (by rw [List.length_map]; omega), List.getElem?_replicate] at h
      split at h <;> cases h
  · by_cases hi : i < ds.length
    · rw [List.getElem?_append_left (by rw [List.length_map]; exact hi), List.getElem?_map] at h
      obtain ⟨x, h1, h2⟩ := Option.map_eq_some_iff.mp h
      cases h2
    · rw [List.getElem?_append_right (by rw [List.length_map]; omega), List.getElem?_replicate] at h
      split at h <;> cases h
  · by_cases hi : i < ds.length
    · rw [List.getElem?_append_left (by rw [List.length_map]; exact hi), List.getElem?_map] at h
      obtain ⟨x, h1, h2⟩ := Option.map_eq_some_iff.mp h
      cases h2
    · rw [List.getElem?_append_right (by rw [List.length_map]; omega), List.getElem?_replicate] at h
      split at h <;> cases h
theorem gvs_of {np n : Nat} {M : MStm} {ds : List D} (hl : ds.length = np) (h : ∀ S, SR S (ds.map Sl.val ++ List.replicate (n - ds.length) Sl.unk) M t A) : Gvs (den np n M) ds t A := fun a e S => by
  obtain ⟨ρ', S', q, k⟩ := h S _ S sx_start a e
  refine ⟨S', ?_, k⟩
  unfold den
  rw [if_pos hl, q]
end
end TM
set_option Elab.async false
set_option linter.all false
set_option maxRecDepth 100000
set_option maxHeartbeats 4000000
namespace TM
open PySem PySem.Spec PyProof.Rows L2 MS
structure Fa {α : Type} [DecidableEq α] (A : α → D) (dep : Nat) where
  py : α → PyData
  toPy_ : ∀ (n : Nat) (S : Store) (a : α), dep < n → toPy S n (A a) = some (py a)
  can : ∀ a, (py a).canLay0 = true
  dp : ∀ a, (py a).depth ≤ dep
  eq : ∀ a b, PyData.eqv (py a) (py b) = decide (a = b)
def faI : Fa eI 0 := ⟨fun i => .int i, fun n S a h => by cases n with | zero => omega | succ n => rfl, fun _ => rfl, fun _ => Nat.le_refl _, fun a b => by rw [PyData.eqv]; rfl⟩
def faB : Fa eB 0 := ⟨fun i => .bool i, fun n S a h => by cases n with | zero => omega | succ n => rfl, fun _ => rfl, fun _ => Nat.le_refl _, fun a b => by rw [PyData.eqv]; cases a <;> cases b <;> rfl⟩
section
variable {α β γ δ : Type} [DecidableEq α] [DecidableEq β] [DecidableEq γ] [DecidableEq δ] {A : α → D} {B : β → D} {C : γ → D} {E : δ → D} {da db dc de : Nat}
theorem mapM_fa (f : Fa A da) {n : Nat} {S : Store} (h : da < n) : ∀ xs : List α, (xs.map A).mapM (toPy S n) = some (xs.map f.py)
  | [] => rfl
  | x :: xs => by
    rw [List.map_cons, List.mapM_cons, f.toPy_ n S x h, mapM_fa f h xs]
    rfl
theorem canAll_fa (f : Fa A da) : ∀ xs : List α, PyData.canLayAll0 (xs.map f.py) = true
  | [] => rfl
  | x :: xs => by
    show (PyData.canLay0 (f.py x) && PyData.canLayAll0 (xs.map f.py)) = true
    rw [f.can, canAll_fa f xs]; rfl
theorem dpAll_fa (f : Fa A da) : ∀ xs : List α, PyData.depthAll (xs.map f.py) ≤ da
  | [] => Nat.zero_le _
  | x :: xs => by
    show max (PyData.depth (f.py x)) (PyData.depthAll (xs.map f.py)) ≤ da
    exact Nat.max_le.mpr ⟨f.dp x, dpAll_fa f xs⟩
theorem eqvAll_fa (f : Fa A da) : ∀ xs ys : List α, PyData.eqvAll (xs.map f.py) (ys.map f.py) = decide (xs = ys)
  | [], [] => by rw [List.map_nil, PyData.eqvAll]; rfl
  | [], y :: ys => by rw [List.map_nil, List.map_cons, PyData.eqvAll]; rfl
  | x :: xs, [] => by rw [List.map_nil, List.map_cons, PyData.eqvAll]; rfl
  | x :: xs, y :: ys => by
    rw [List.map_cons, List.map_cons, PyData.eqvAll, f.eq, eqvAll_fa f xs ys]
    by_cases h1 : x = y <;> by_cases h2 : xs = ys <;> simp [h1, h2]
def faV (f : Fa A da) : Fa (eV A) (da + 1) where
  py xs := .tuple (xs.map f.py)
  toPy_ n S xs h := by
    cases n with
    | zero => omega
    | succ n => show ((xs.map A).mapM (toPy S n)).map PyData.tuple = _; rw [mapM_fa f (by omega)]; rfl
  can xs := canAll_fa f xs
  dp xs := Nat.succ_le_succ (dpAll_fa f xs)
  eq xs ys := by rw [PyData.eqv, eqvAll_fa]
def faL (f : Fa A da) : Fa (eL A) (da + 1) where
  py xs := .list (xs.map f.py)
  toPy_ n S xs h := by
    cases n with
    | zero => omega
    | succ n => show ((xs.map A).mapM (toPy S n)).map PyData.list = _; rw [mapM_fa f (by omega)]; rfl
  can xs := canAll_fa f xs
  dp xs := Nat.succ_le_succ (dpAll_fa f xs)
  eq xs ys := by rw [PyData.eqv, eqvAll_fa]
def faT2 (f : Fa A da) (g : Fa B db) : Fa (eT2 A B) (max da db + 1) where
  py p := .tuple [f.py p.1, g.py p.2]
  toPy_ n S p h := by
    cases n with
    | zero => omega
    | succ n =>
      show (([A p.1, B p.2] : List D).mapM (toPy S n)).map PyData.tuple = _
      rw [List.mapM_cons, List.mapM_cons, f.toPy_ n S _ (by omega), g.toPy_ n S _ (by omega)]
      rfl
  can p := by show (PyData.canLay0 _ && (PyData.canLay0 _ && true)) = true; rw [f.can, g.can]; rfl
  dp p := by
    have h1 := f.dp p.1
    have h2 := g.dp p.2
    show max (PyData.depth _) (max (PyData.depth _) 0) + 1 ≤ _
    omega
  eq p q := by
    rw [PyData.eqv, PyData.eqvAll, PyData.eqvAll, PyData.eqvAll, f.eq, g.eq]
    by_cases h1 : p.1 = q.1 <;> by_cases h2 : p.2 = q.2 <;> simp [h1, h2, Prod.ext_iff]
def faT4 (f : Fa A da) (g : Fa B db) (k : Fa C dc) (l : Fa E de) : Fa (eT4 A B C E) (max da (max db (max dc de)) + 1) where
  py p := .tuple [f.py p.1, g.py p.2.1, k.py p.2.2.1, l.py p.2.2.2]
  toPy_ n S p h := by
    cases n with
    | zero => omega
    | succ n =>
      show (([A p.1, B p.2.1, C p.2.2.1, E p.2.2.2] : List D).mapM (toPy S n)).map PyData.tuple = _
      rw [List.mapM_cons, List.mapM_cons, List.mapM_cons, List.mapM_cons, f.toPy_ n S _ (by omega), g.toPy_ n S _ (by omega), k.toPy_ n S _ (by omega), l.toPy_ n S _ (by omega)]
      rfl
  can p := by show (PyData.canLay0 _ && (PyData.canLay0 _ && (PyData.canLay0 _ && (PyData.canLay0 _ && true)))) = true; rw [f.can, g.can, k.can, l.can]; rfl
  dp p := by
    have h1 := f.dp p.1
    have h2 := g.dp p.2.1
    have h3 := k.dp p.2.2.1
    have h4 := l.dp p.2.2.2
    show max (PyData.depth _) (max (PyData.depth _) (max (PyData.depth _) (max (PyData.depth _) 0))) + 1 ≤ _
    omega
  eq p q := by
    rw [PyData.eqv, PyData.eqvAll, PyData.eqvAll, PyData.eqvAll, PyData.eqvAll, PyData.eqvAll, f.eq, g.eq, k.eq, l.eq]
    by_cases h1 : p.1 = q.1 <;> by_cases h2 : p.2.1 = q.2.1 <;> by_cases h3 : p.2.2.1 = q.2.2.1 <;> by_cases h4 : p.2.2.2 = q.2.2.2 <;> simp [h1, h2, h3, h4, Prod.ext_iff]
theorem nn_of {f : Fa A da} (h : ∀ a, (∃ xs, f.py a = .tuple xs) ∨ (∃ xs, f.py a = .list xs) ∨ ∃ i, f.py a = .int i) (a : α) : PyData.eqv .none (f.py a) = false ∧ PyData.eqv (f.py a) .none = false := by
  rcases h a with ⟨xs, e⟩ | ⟨xs, e⟩ | ⟨i, e⟩ <;> rw [e] <;> exact ⟨by rw [PyData.eqv], by rw [PyData.eqv]⟩
def faO (f : Fa A da) (hn : ∀ a, (∃ xs, f.py a = .tuple xs) ∨ (∃ xs, f.py a = .list xs) ∨ ∃ i, f.py a = .int i) : Fa (eO A) da where
  py o := match o with | none => .none | some a => f.py a
  toPy_ n S o h := by
    cases o with
    | none => cases n with | zero => omega | succ n => rfl
    | some a => exact f.toPy_ n S a h
  can o := by cases o with | none => rfl | some a => exact f.can a
  dp o := by cases o with | none => exact Nat.zero_le _ | some a => exact f.dp a
  eq o p := by
    cases o with
    | none => cases p with
      | none => show PyData.eqv .none .none = _; rw [PyData.eqv]; rfl
      | some b => show PyData.eqv .none (f.py b) = _; rw [(nn_of hn b).1]; rfl
    | some a => cases p with
      | none => show PyData.eqv (f.py a) .none = _; rw [(nn_of hn a).2]; rfl
      | some b => show PyData.eqv (f.py a) (f.py b) = _; rw [f.eq]; simp
theorem fEqG_fa (f : Fa A da) (hd : da < 64) {g : Bool → Bool} (a b : α) (S : Store) : fEqG g (A a) (A b) S = some (.bl (g (decide (a = b))), S) := by
  unfold fEqG
  rw [f.toPy_ 64 S a hd, f.toPy_ 64 S b hd]
  have sh : ∀ a, SeqAt.shaped (f.py a) = true := fun a => by
    unfold SeqAt.shaped
    rw [f.can, Bool.true_and]
    have := f.dp a
    exact decide_eq_true (by omega)
  show (if (SeqAt.shaped (f.py a) && SeqAt.shaped (f.py b)) = true then some (D.bl (g (PyData.eqv (f.py a) (f.py b))), S) else none) = _
  rw [sh, sh, if_pos (show (true && true) = true from rfl), f.eq]
theorem toPy_int {S : Store} {n : Nat} {i : Int} {p : PyData} (h : toPy S (n + 1) (.int i) = some p) : p = .int i := by cases h; rfl
theorem toPy_str {S : Store} {n : Nat} {i : Str} {p : PyData} (h : toPy S (n + 1) (.str i) = some p) : p = .str i := by cases h; rfl
theorem op_eq_ (f : Fa A da) (hd : da < 64) : Op2 fEq A A eB (fun a b => some (decide (a = b))) := fun a b c S e => by
  cases e
  unfold fEq
  split
  · rename_i i j h1 h2
    have e1 := toPy_int (h1 ▸ f.toPy_ 64 S a hd)
    have e2 := toPy_int (h2 ▸ f.toPy_ 64 S b hd)
    have := f.eq a b
    rw [e1, e2, PyData.eqv] at this
    show some (D.bl (decide (i = j)), S) = _
    rw [show decide (i = j) = (i == j) from rfl, this]
  · rename_i i j h1 h2
    have e1 := toPy_str (h1 ▸ f.toPy_ 64 S a hd)
    have e2 := toPy_str (h2 ▸ f.toPy_ 64 S b hd)
    have := f.eq a b
    rw [e1, e2, PyData.eqv] at this
    show some (D.bl (decide (i = j)), S) = _
    rw [show decide (i = j) = (i == j) from rfl, this]
  · exact fEqG_fa f hd a b S
theorem op_ne_ (f : Fa A da) (hd : da < 64) : Op2 fNe A A eB (fun a b => some (!decide (a = b))) := fun a b c S e => by
  cases e
  unfold fNe
  split
  · rename_i i j h1 h2
    have e1 := toPy_int (h1 ▸ f.toPy_ 64 S a hd)
    have e2 := toPy_int (h2 ▸ f.toPy_ 64 S b hd)
    have := f.eq a b
    rw [e1, e2, PyData.eqv] at this
    show some (D.bl (!decide (i = j)), S) = _
    rw [show decide (i = j) = (i == j) from rfl, this]
  · rename_i i j h1 h2
    have e1 := toPy_str (h1 ▸ f.toPy_ 64 S a hd)
    have e2 := toPy_str (h2 ▸ f.toPy_ 64 S b hd)
    have := f.eq a b
    rw [e1, e2, PyData.eqv] at this
    show some (D.bl (!decide (i = j)), S) = _
    rw [show decide (i = j) = (i == j) from rfl, this]
  · exact fEqG_fa f hd a b S
end
end TM
set_option Elab.async false
set_option linter.all false
set_option maxRecDepth 100000
set_option maxHeartbeats 4000000
namespace TM
open PySem PySem.Spec PyProof.Rows L2 MS
theorem op_add : Op2 fAdd eI eI eI (fun a b => some (a + b)) := fun a b c S e => by cases e; rfl
theorem op_sub : Op2 fSub eI eI eI (fun a b => some (a - b)) := fun a b c S e => by cases e; rfl
def mod_ (a b : Int) : Option Int := cond (decide (0 < b)) (some (a % b)) none
theorem op_mod : Op2 fMod eI eI eI mod_ := fun a b c S e => by
  unfold mod_ at e
  cases k : decide (0 < b) with
  | true => rw [k] at e; cases e; show (if decide (0 < b) = true then _ else _) = _; rw [if_pos k]
  | false => rw [k] at e; cases e
def divW_ (a b : Int) : Option Int := cond (decide (0 < b) && decide (b.natAbs.log2 < 9000)) (some (a / b)) none
theorem op_divW : Op2 fDivW eI eI eI divW_ := fun a b c S e => by
  unfold divW_ at e
  cases k : (decide (0 < b) && decide (b.natAbs.log2 < 9000)) with
  | true => rw [k] at e; cases e; show (if (decide (0 < b) && decide (b.natAbs.log2 < 9000)) = true then _ else _) = _; rw [if_pos k]
  | false => rw [k] at e; cases e
def mulW_ (a b : Int) : Option Int := cond (narrow a b) (some (a * b)) none
def pow_ (i j : Int) : Option Int := cond (decide (0 ≤ j) && decide (j ≤ 1000) && i64 i) (some (i ^ j.toNat)) none
theorem op_pow : Op2 fPow eI eI eI pow_ := fun a b c S e => by
  unfold pow_ at e
  cases k : (decide (0 ≤ b) && decide (b ≤ 1000) && i64 a) with
  | true => rw [k] at e; cases e; show (if (decide (0 ≤ b) && decide (b ≤ 1000) && i64 a) = true then _ else _) = _; rw [if_pos k]
  | false => rw [k] at e; cases e
theorem op_lt : Op2 fLt eI eI eB (fun a b => some (decide (a < b))) := fun a b c S e => by cases e; rfl
theorem op_gt : Op2 fGt eI eI eB (fun a b => some (decide (b < a))) := fun a b c S e => by cases e; rfl
theorem op_ge : Op2 fGe eI eI eB (fun a b => some (decide (b ≤ a))) := fun a b c S e => by cases e; rfl
section
variable {α β γ δ : Type} {S0 : Store} {sl : List Sl} {m m1 m2 m3 : MExp} {A : α → D} {B : β → D} {C : γ → D} {t : Option α} {t1 : Option α} {t2 : Option β}
theorem op_catV : Op2 fAdd (eV A) (eV A) (eV A) extM := fun a b c S e => by
  obtain ⟨hz, rfl⟩ := extM_some e
  show (if (a.map A).length + (b.map A).length ≤ szl then some (D.tup (a.map A ++ b.map A), S) else none) = _
  rw [List.length_map, List.length_map, if_pos hz, ← List.map_append]
theorem op_catL : Op2 fAdd (eL A) (eL A) (eL A) extM := fun a b c S e => by
  obtain ⟨hz, rfl⟩ := extM_some e
  show (if (a.map A).length + (b.map A).length ≤ szl then some (D.lst (a.map A ++ b.map A), S) else none) = _
  rw [List.length_map, List.length_map, if_pos hz, ← List.map_append]
def atT {α : Type} (xs : List α) (i : Int) : Option α := L2.atI xs i
theorem atT_map {xs : List α} {i : Int} : L2.atI (xs.map A) i = (atT xs i).map A := by
  unfold atT L2.atI
  rw [List.length_map]
  cases L2.ixN xs.length i with
  | none => rfl
  | some j => simp
theorem op_ixV : Op2 fIx (eV A) eI A atT := fun a b c S e => by
  show (L2.atI (a.map A) b).map (fun d => (d, S)) = _
  rw [atT_map, e]; rfl
theorem op_ixL : Op2 fIx (eL A) eI A atT := fun a b c S e => by
  show (L2.atI (a.map A) b).map (fun d => (d, S)) = _
  rw [atT_map, e]; rfl
theorem xe_ixF {k : Int} {f : α → β} (h : XE S0 sl m t A) (hE : ∀ a S, fIx (A a) (.int k) S = some (B (f a), S)) : XE S0 sl (mBin fIx m (mC (.int k))) (t.bind fun a => some (f a)) B := fun ρ S s b e => by
  obtain ⟨a, e1, e⟩ := bnd e
  cases e
  obtain ⟨S1, q1, a1⟩ := h ρ S s a e1
  refine ⟨S1, ?_, a1⟩
  unfold mBin
  rw [q1]
  exact hE a S1
theorem inV_ints (a : Int) : ∀ l : List Int, inV (.int a) (l.map V.int) = decide (a ∈ l)
  | [] => rfl
  | x :: l => by
    have ih := inV_ints a l
    unfold inV at ih ⊢
    rw [List.map_cons, List.any_cons, ih]
    show (decide (_ = _) || _) = _
    by_cases h : a = x
    · subst h; simp
    · have h' : ¬ x = a := fun z => h z.symm
      simp [h, h']
theorem inD_ints (x : Int) (l : List Int) : inD (.int x) (l.map D.int) = decide (x ∈ l) := by
  unfold inD
  rw [List.map_map]
  exact inV_ints x l
theorem flat_ints : ∀ xs : List Int, (xs.map eI).all flatD = true
  | [] => rfl
  | _ :: xs => by rw [List.map_cons, List.all_cons, flat_ints xs]; rfl
theorem op_inV : Op2 (fIn false) eI (eV eI) eB (fun x xs => some (decide (x ∈ xs))) := fun a b c S e => by
  cases e
  show (if (flatD (eI a) && (b.map eI).all flatD) = true then some (D.bl (if false = true then !inD (eI a) (b.map eI) else inD (eI a) (b.map eI)), S) else none) = _
  rw [flat_ints, inD_ints]
  rfl
theorem op_notInV : Op2 (fIn true) eI (eV eI) eB (fun x xs => some (!decide (x ∈ xs))) := fun a b c S e => by
  cases e
  show (if (flatD (eI a) && (b.map eI).all flatD) = true then some (D.bl (if true = true then !inD (eI a) (b.map eI) else inD (eI a) (b.map eI)), S) else none) = _
  rw [flat_ints, inD_ints]
  rfl
theorem op_inL : Op2 (fIn false) eI (eL eI) eB (fun x xs => some (decide (x ∈ xs))) := fun a b c S e => by
  cases e
  show (if (flatD (eI a) && (b.map eI).all flatD) = true then some (D.bl (if false = true then !inD (eI a) (b.map eI) else inD (eI a) (b.map eI)), S) else none) = _
  rw [flat_ints, inD_ints]
  rfl
theorem op_notInL : Op2 (fIn true) eI (eL eI) eB (fun x xs => some (!decide (x ∈ xs))) := fun a b c S e => by
  cases e
  show (if (flatD (eI a) && (b.map eI).all flatD) = true then some (D.bl (if true = true then !inD (eI a) (b.map eI) else inD (eI a) (b.map eI)), S) else none) = _
  rw [flat_ints, inD_ints]
  rfl
theorem gv_pure {F : DCall} {ds : List D} {r : α} (h : ∀ S, F ds S = some (A r, S)) : Gvs F ds (some r) A := fun a e S => by cases e; exact ⟨S, h S, .refl⟩
theorem g_lenV {xs : List α} : Gvs cLen [eV A xs] (some (xs.length : Int)) eI := gv_pure fun S => by show some (D.int ((xs.map A).length : Int), S) = _; rw [List.length_map]
theorem g_lenL {xs : List α} : Gvs cLen [eL A xs] (some (xs.length : Int)) eI := gv_pure fun S => by show some (D.int ((xs.map A).length : Int), S) = _; rw [List.length_map]
theorem g_tupleL {xs : List α} : Gvs cTuple [eL A xs] (some xs) (eV A) := gv_pure fun S => rfl
theorem cFz_new {F : DCall} {ds es : List D} {S : Store} (h : F ds S = some (.lr S.length, S ++ [.lst es])) : ∃ S', cFz F ds S = some (.lst es, S') ∧ All S S' := by
  refine ⟨(S ++ [MO.lst es]).set S.length .gone, ?_, All.app.wr (Nat.le_refl _)⟩
  unfold cFz
  rw [h]
  show fzD (S ++ [MO.lst es]) (.lr S.length) = _
  unfold fzD
  simp only [get_new]
theorem g_listV {xs : List α} : Gvs (cFz cList) [eV A xs] (some xs) (eL A) := fun a e S => by cases e; exact cFz_new rfl
theorem g_listL {xs : List α} : Gvs (cFz cList) [eL A xs] (some xs) (eL A) := fun a e S => by cases e; exact cFz_new rfl
theorem g_all {xs : List Bool} : Gvs cAll [eL eB xs] (some (xs.all id)) eB := gv_pure fun S => by
  show ((blsOf (xs.map D.bl)).map fun ns => (D.bl (ns.all id), S)) = _
  rw [blsOf_map]; rfl
theorem g_int {i : Int} : Gvs cInt [eI i] (some i) eI := gv_pure fun S => rfl
theorem g_max {i j : Int} : Gvs cMax [eI i, eI j] (some (if j > i then j else i)) eI := gv_pure fun S => rfl
theorem g_min {i j : Int} : Gvs cMin [eI i, eI j] (some (if j < i then j else i)) eI := gv_pure fun S => rfl
def ne_ (l : List (List Int)) : Bool := l.all fun x => !x.isEmpty
theorem xe_call1O {F : DCall} {i : Nat} {ds : List D} {r : Option γ} (h : sl[i]? = some (.own ds)) (hF : ∀ S k, S[k]? = some (.lst ds) → ∀ c, r = some c → ∃ S', F [.lr k] S = some (C c, S') ∧ All S S') : XE S0 sl (mCall F (mCons (mVar i) mNil)) r C := fun ρ S s c e => by
  obtain ⟨k, k1, k2, k3⟩ := s.own i _ h
  obtain ⟨S', q, a⟩ := hF S k k2 c e
  refine ⟨S', ?_, a⟩
  have e1 : mCons (mVar i) mNil ρ S = some ([.lr k], S) := by
    have : mVar i ρ S = some (.lr k, S) := by unfold mVar; rw [k1]
    simp only [mCons, mNil, this, Option.bind_some]
  unfold mCall
  rw [e1]
  exact q
theorem xe_lenO {i : Nat} {xs : List α} (h : sl[i]? = some (.own (xs.map A))) : XE S0 sl (mCall cLen (mCons (mVar i) mNil)) (some (xs.length : Int)) eI := xe_call1O h fun S k e c q => by
  cases q
  exact ⟨S, by show ((MS.items S (.lr k)).bind fun ys => some (D.int (ys.length : Int), S)) = _; rw [show MS.items S (.lr k) = some (xs.map A) from lat_lst e]; show some (D.int ((xs.map A).length : Int), S) = _; rw [List.length_map], .refl⟩
theorem xe_tupleO {i : Nat} {xs : List α} (h : sl[i]? = some (.own (xs.map A))) : XE S0 sl (mCall cTuple (mCons (mVar i) mNil)) (some xs) (eV A) := xe_call1O h fun S k e c q => by
  cases q
  exact ⟨S, by show ((MS.items S (.lr k)).bind fun ys => some (D.tup ys, S)) = _; rw [show MS.items S (.lr k) = some (xs.map A) from lat_lst e]; rfl, .refl⟩
theorem xe_binO1 {f : DOp2} {i : Nat} {ds : List D} {k : β → Option γ} (h : sl[i]? = some (.own ds)) (h2 : XE S0 sl m t2 B) (hf : ∀ S n b c, S[n]? = some (.lst ds) → k b = some c → f (.lr n) (B b) S = some (C c, S)) : XE S0 sl (mBin f (mVar i) m) (t2.bind fun b => k b) C := fun ρ S s c e => by
  obtain ⟨b, e2, e⟩ := bnd e
  obtain ⟨n, k1, k2, k3⟩ := s.own i _ h
  obtain ⟨S1, q1, a1⟩ := h2 ρ S s b e2
  refine ⟨S1, ?_, a1⟩
  have : mVar i ρ S = some (.lr n, S) := by unfold mVar; rw [k1]
  unfold mBin
  rw [this]
  show ((m ρ S).bind fun q => f (.lr n) q.1 q.2) = _
  rw [q1]
  exact hf S1 n b c (a1 _ _ k2) e
def SlOk (S S' : Store) (d : D) : Sl → Prop
  | .unk => True
  | .val e => d = e
  | .own ds => ∃ n, d = .lr n ∧ S.length ≤ n ∧ S'[n]? = some (.lst ds)
def XS {α : Type} (S0 : Store) (sl : List Sl) (m : MExp) (t : Option α) (k : α → Sl) : Prop := ∀ ρ S, Sx S0 sl ρ S → ∀ a, t = some a → ∃ d S', m ρ S = some (d, S') ∧ All S S' ∧ SlOk S S' d (k a)
theorem xs_val (h : XE S0 sl m t A) : XS S0 sl m t (fun a => .val (A a)) := fun ρ S s a e => let ⟨S', q, a1⟩ := h ρ S s a e; ⟨_, S', q, a1, rfl⟩
theorem xs_own {tx : Option (List α)} (h : XO S0 sl m tx A) : XS S0 sl m tx (fun xs => .own (xs.map A)) := fun ρ S s a e => let ⟨n, S', q, a1, h1, h2⟩ := h ρ S s a e; ⟨_, S', q, a1, n, rfl, h1, h2⟩
theorem Sx.put {i : Nat} {ρ : Ev} {S1 S2 : Store} {d : D} {k : Sl} (hk : k ≠ .unk) (s : Sx S0 sl ρ S2) (h : SlOk S1 S2 d k) (hlo : S0.length ≤ S1.length) (lt : ∀ (j : Nat) (es : List D) (h : Nat), sl[j]? = some (.own es) → ρ[j]? = some (some (.lr h)) → h < S1.length) : Sx S0 (sl.set i k) (ρ.set i (some d)) S2 := by
  cases k with
  | unk => exact absurd rfl hk
  | val e => cases (show d = e from h); exact s.set
  | own ds =>
    obtain ⟨n, rfl, h1, h2⟩ := h
    exact s.newF .refl (by omega) (fun j es h q1 q2 => by have := lt j es h q1 q2; omega) h2
theorem sn_par {i j : Nat} {k1 : α → Sl} {k2 : β → Sl} (h1 : XS S0 sl m1 t1 k1) (h2 : XS S0 sl m2 t2 k2) (n1 : ∀ a, k1 a ≠ .unk) (n2 : ∀ a, k2 a ≠ .unk) (hij : i ≠ j) :
    SN S0 sl (mPar i j (mCons m1 (mCons m2 mNil))) (t1.bind fun a => t2.bind fun b => some (a, b)) (fun p => (sl.set i (k1 p.1)).set j (k2 p.2)) := fun ρ S s c e => by
  obtain ⟨a, e1, e⟩ := bnd e
  obtain ⟨b, e2, e⟩ := bnd e
  cases e
  obtain ⟨d1, S1, q1, a1, o1⟩ := h1 ρ S s a e1
  obtain ⟨d2, S2, q2, a2, o2⟩ := h2 ρ S1 (s.grow a1) b e2
  have o1' : SlOk S S2 d1 (k1 a) := by
    cases hk : k1 a with
    | unk => trivial
    | val e => rw [hk] at o1; exact o1
    | own ds => rw [hk] at o1; obtain ⟨n, r1, r2, r3⟩ := o1; exact ⟨n, r1, r2, a2 _ _ r3⟩
  have s2 := (s.grow a1).grow a2
  have s3 : Sx S0 (sl.set i (k1 a)) (ρ.set i (some d1)) S2 := s2.put (n1 a) o1' s.all.len fun j es h g1 g2 => s.own_lt g1 g2
  have s4 : Sx S0 ((sl.set i (k1 a)).set j (k2 b)) ((ρ.set i (some d1)).set j (some d2)) S2 := s3.put (n2 b) o2 (Nat.le_trans s.all.len a1.len) fun j' es h g1 g2 => by
    by_cases hj : i = j'
    · subst hj
      have hl : i < sl.length := by have := (List.getElem?_eq_some_iff.mp g1).1; rwa [List.length_set] at this
      rw [List.getElem?_set_self hl] at g1
      rw [List.getElem?_set_self (by rw [s.len]; exact hl)] at g2
      cases g2
      cases hk : k1 a with
      | unk => rw [hk] at g1; cases g1
      | val e => rw [hk] at g1; cases g1
      | own ds =>
        rw [hk] at o1
        obtain ⟨n, r1, r2, r3⟩ := o1
        cases r1
        exact (List.getElem?_eq_some_iff.mp r3).1
    · rw [List.getElem?_set_ne hj] at g1 g2
      have := s.own_lt g1 g2
      have := a1.len
      omega
  refine ⟨_, S2, ?_, s4⟩
  have q : mCons m1 (mCons m2 mNil) ρ S = some ([d1, d2], S2) := by simp only [mCons, mNil, q1, q2, Option.bind_some]
  unfold mPar
  rw [q]
  rfl
end
end TM
set_option Elab.async false
set_option linter.all false
set_option maxRecDepth 100000
set_option maxHeartbeats 4000000
namespace TM
open PySem PySem.Spec PyProof.Rows L2 MS
structure Pn where
  ns : List Int
  seat : Int
  rest : Int
def pobj (P : Pn) : MO := .lst [.lst (P.ns.map D.int), .int P.seat, .int P.rest]
abbrev PM (α : Type) := Pn → Option (α × Pn)
def lP {α : Type} (t : Option α) : PM α := fun P => t.bind fun a => some (a, P)
def bP {α β : Type} (t : PM α) (f : α → PM β) : PM β := fun P => (t P).bind fun x => f x.1 x.2
def Out.by {σ β γ : Type} (f : σ → γ) (g : β → γ) : Out σ β → γ
  | .nx s => f s
  | .rt b => g b
def loopP {α σ : Type} (f : α → σ → PM σ) : List α → σ → PM σ
  | [], s => lP (some s)
  | x :: xs, s => bP (f x s) fun s' => loopP f xs s'
def loopRP {α σ β : Type} (f : α → σ → PM (Out σ β)) : List α → σ → PM (Out σ β)
  | [], s => lP (some (.nx s))
  | x :: xs, s => bP (f x s) fun o => o.by (fun s' => loopRP f xs s') fun b => lP (some (.rt b))
def compGoP {α β : Type} (c : α → PM Bool) (f : α → PM β) : List α → PM (List β)
  | [] => lP (some [])
  | x :: xs => bP (c x) fun k => cond k (bP (f x) fun y => bP (compGoP c f xs) fun ys => lP (some (y :: ys))) (compGoP c f xs)
def compP {α β : Type} (c : α → PM Bool) (f : α → PM β) (xs : List α) : PM (List β) := cond (Nat.ble xs.length 16777216) (compGoP c f xs) (fun _ => none)
theorem lP_some {α : Type} {t : Option α} {P P' : Pn} {a : α} (h : lP t P = some (a, P')) : t = some a ∧ P' = P := by
  obtain ⟨b, e1, e⟩ := Option.bind_eq_some_iff.mp h
  cases e
  exact ⟨e1, rfl⟩
theorem bP_some {α β : Type} {t : PM α} {f : α → PM β} {P P' : Pn} {b : β} (h : bP t f P = some (b, P')) : ∃ a P1, t P = some (a, P1) ∧ f a P1 = some (b, P') := by
  obtain ⟨⟨a, P1⟩, e1, e⟩ := Option.bind_eq_some_iff.mp h
  exact ⟨a, P1, e1, e⟩
def Gps {α : Type} (F : DCall) (args : List D) (t : PM α) (E : α → D) : Prop := ∀ S p P, S[p]? = some (pobj P) → ∀ a P', t P = some (a, P') → ∃ S', F (.lr p :: args) S = some (E a, S') ∧ All (S.set p (pobj P')) S'
section
variable {α β γ δ σ τ : Type} {S0 S S' : Store} {p : Nat} {sl : List Sl} {m m1 m2 m3 m4 m5 m6 m7 : MExp} {r s1 s2 : MStm} {A : α → D} {B : β → D} {C : γ → D} {t : PM α} {t1 : PM α} {t2 : PM β}
theorem All.setSame {x : MO} (a : All S S') (h : p < S.length) : All (S.set p x) (S'.set p x) := fun n y e => by
  have hl : p < S'.length := by have := a.len; omega
  by_cases hn : n = p
  · subst hn
    rw [List.getElem?_set_self h] at e
    rw [List.getElem?_set_self hl]; exact e
  · rw [List.getElem?_set_ne (fun z => hn z.symm)] at e ⊢
    exact a n y e
structure Pf (S0 : Store) (p : Nat) (sl : List Sl) (P : Pn) (ρ : Ev) (S : Store) : Prop where
  sx : Sx (S0.set p (pobj P)) sl ρ S
  lo : p < S0.length
theorem Pf.at_ {P : Pn} {ρ : Ev} (s : Pf S0 p sl P ρ S) : S[p]? = some (pobj P) := s.sx.all p _ (List.getElem?_set_self s.lo)
theorem Pf.pen {P P' : Pn} {ρ : Ev} (s : Pf S0 p sl P ρ S) (a : All (S.set p (pobj P')) S') : Pf S0 p sl P' ρ S' := by
  have hl := s.lo
  have a0 : All (S0.set p (pobj P')) (S.set p (pobj P')) := by
    have := s.sx.all.setSame (p := p) (x := pobj P') (by rw [List.length_set]; exact hl)
    rwa [List.set_set] at this
  refine ⟨⟨a0.trans a, s.sx.len, s.sx.val, fun i ds e => ?_, s.sx.one⟩, hl⟩
  obtain ⟨h, h1, h2, h3⟩ := s.sx.own i ds e
  rw [List.length_set] at h3
  refine ⟨h, h1, a _ _ ?_, by rw [List.length_set]; exact h3⟩
  rw [List.getElem?_set_ne (by omega)]
  exact h2
def St (p : Nat) (P' : Pn) (S S' : Store) : Prop := All (S.set p (pobj P')) S'
theorem St.trans {P1 P2 : Pn} {S1 S2 : Store} (hl : p < S.length) (a : St p P1 S S1) (b : St p P2 S1 S2) : St p P2 S S2 := by
  have := All.setSame (p := p) (x := pobj P2) a (by rw [List.length_set]; exact hl)
  rw [List.set_set] at this
  exact this.trans b
theorem set_same {α : Type} {l : List α} {i : Nat} {x : α} (h : l[i]? = some x) : l.set i x = l := by
  refine List.ext_getElem? fun j => ?_
  by_cases hj : i = j
  · subst hj
    rw [List.getElem?_set_self (List.getElem?_eq_some_iff.mp h).1, h]
  · rw [List.getElem?_set_ne hj]
theorem Pf.lt {P : Pn} {ρ : Ev} (s : Pf S0 p sl P ρ S) : p < S.length := (List.getElem?_eq_some_iff.mp s.at_).1
theorem Pf.st {P : Pn} {ρ : Ev} (s : Pf S0 p sl P ρ S) (a : All S S') : St p P S S' := by
  unfold St
  rw [set_same s.at_]
  exact a
theorem St.get {P' : Pn} (a : St p P' S S') {n : Nat} {x : MO} (hn : n ≠ p) (h : S[n]? = some x) : S'[n]? = some x := a n x (by rw [List.getElem?_set_ne (fun z => hn z.symm)]; exact h)
theorem St.len {P' : Pn} (a : St p P' S S') : S.length ≤ S'.length := by have := All.len a; rwa [List.length_set] at this
theorem St.wr {P' : Pn} (a : St p P' S S') {n : Nat} {x : MO} (h : S.length ≤ n) : St p P' S (S'.set n x) := All.wr a (by rw [List.length_set]; exact h)
theorem St.all {P' : Pn} {S'' : Store} (a : St p P' S S') (b : All S' S'') : St p P' S S'' := All.trans a b
def PX {α : Type} (S0 : Store) (p : Nat) (sl : List Sl) (m : MExp) (t : PM α) (E : α → D) : Prop := ∀ P ρ S, Pf S0 p sl P ρ S → ∀ a P', t P = some (a, P') → ∃ S', m ρ S = some (E a, S') ∧ St p P' S S'
def PT (S0 : Store) (p : Nat) (sl : List Sl) (m : MTst) (t : PM Bool) : Prop := ∀ P ρ S, Pf S0 p sl P ρ S → ∀ a P', t P = some (a, P') → ∃ S', m ρ S = some (a, S') ∧ St p P' S S'
def PI {α : Type} (S0 : Store) (p : Nat) (sl : List Sl) (m : MItr) (t : PM (List α)) (E : α → D) : Prop := ∀ P ρ S, Pf S0 p sl P ρ S → ∀ a P', t P = some (a, P') → ∃ S', m ρ S = some ((a.map E, always), S') ∧ St p P' S S'
def PO {α : Type} (S0 : Store) (p : Nat) (sl : List Sl) (m : MExp) (t : PM (List α)) (A : α → D) : Prop := ∀ P ρ S, Pf S0 p sl P ρ S → ∀ xs P', t P = some (xs, P') → ∃ n S1, m ρ S = some (.lr n, S1) ∧ St p P' S S1 ∧ S.length ≤ n ∧ S1[n]? = some (.lst (xs.map A))
def PR {β : Type} (S0 : Store) (p : Nat) (sl : List Sl) (m : MStm) (t : PM β) (E : β → D) : Prop := ∀ P ρ S, Pf S0 p sl P ρ S → ∀ b P', t P = some (b, P') → ∃ ρ' S', m ρ S = some (.rt (E b), ρ', S') ∧ All (S0.set p (pobj P')) S'
def PN {σ : Type} (S0 : Store) (p : Nat) (sl : List Sl) (m : MStm) (t : PM σ) (sl' : σ → List Sl) : Prop := ∀ P ρ S, Pf S0 p sl P ρ S → ∀ a P', t P = some (a, P') → ∃ ρ' S', m ρ S = some (.nx, ρ', S') ∧ Pf S0 p (sl' a) P' ρ' S'
def OutP {σ β : Type} (S0 : Store) (p : Nat) (sl' : σ → List Sl) (E : β → D) (f : Fl) (P' : Pn) (ρ' : Ev) (S' : Store) : Out σ β → Prop
  | .nx s => f = .nx ∧ Pf S0 p (sl' s) P' ρ' S'
  | .rt b => f = .rt (E b) ∧ All (S0.set p (pobj P')) S'
def PB {σ β : Type} (S0 : Store) (p : Nat) (sl : List Sl) (m : MStm) (t : PM (Out σ β)) (sl' : σ → List Sl) (E : β → D) : Prop := ∀ P ρ S, Pf S0 p sl P ρ S → ∀ o P', t P = some (o, P') → ∃ f ρ' S', m ρ S = some (f, ρ', S') ∧ OutP S0 p sl' E f P' ρ' S' o
theorem px_of {t : Option α} (h : ∀ S0, XE S0 sl m t A) : PX S0 p sl m (lP t) A := fun P ρ S s a P' e => by
  obtain ⟨e1, rfl⟩ := lP_some e
  obtain ⟨S', q, a1⟩ := h _ ρ S s.sx a e1
  exact ⟨S', q, s.st a1⟩
theorem pt_of {c : MTst} {t : Option Bool} (h : ∀ S0, XT S0 sl c t) : PT S0 p sl c (lP t) := fun P ρ S s a P' e => by
  obtain ⟨e1, rfl⟩ := lP_some e
  obtain ⟨S', q, a1⟩ := h _ ρ S s.sx a e1
  exact ⟨S', q, s.st a1⟩
theorem pi_of {i : MItr} {t : Option (List α)} (h : ∀ S0, XI S0 sl i t A) : PI S0 p sl i (lP t) A := fun P ρ S s a P' e => by
  obtain ⟨e1, rfl⟩ := lP_some e
  obtain ⟨S', q, a1⟩ := h _ ρ S s.sx a e1
  exact ⟨S', q, s.st a1⟩
theorem pn_of {t : Option σ} {sl' : σ → List Sl} (h : ∀ S0, SN S0 sl r t sl') : PN S0 p sl r (lP t) sl' := fun P ρ S s a P' e => by
  obtain ⟨e1, rfl⟩ := lP_some e
  obtain ⟨ρ', S', q, k⟩ := h _ ρ S s.sx a e1
  exact ⟨ρ', S', q, k, s.lo⟩
theorem pr_of {t : Option α} (h : ∀ S0, SR S0 sl r t A) : PR S0 p sl r (lP t) A := fun P ρ S s a P' e => by
  obtain ⟨e1, rfl⟩ := lP_some e
  exact h _ ρ S s.sx a e1
theorem pb_of {t : Option (Out σ α)} {sl' : σ → List Sl} (h : ∀ S0, SB S0 sl r t sl' A) : PB S0 p sl r (lP t) sl' A := fun P ρ S s a P' e => by
  obtain ⟨e1, rfl⟩ := lP_some e
  obtain ⟨f, ρ', S', q, k⟩ := h _ ρ S s.sx a e1
  refine ⟨f, ρ', S', q, ?_⟩
  cases a with
  | nx x => exact ⟨k.1, k.2, s.lo⟩
  | rt b => exact k
theorem px_bin {f : DOp2} {k : α → β → Option γ} (h1 : PX S0 p sl m1 t1 A) (h2 : PX S0 p sl m2 t2 B) (hf : Op2 f A B C k) : PX S0 p sl (mBin f m1 m2) (bP t1 fun a => bP t2 fun b => lP (k a b)) C := fun P ρ S s c P' e => by
  obtain ⟨a, P1, e1, e⟩ := bP_some e
  obtain ⟨b, P2, e2, e⟩ := bP_some e
  obtain ⟨e3, rfl⟩ := lP_some e
  obtain ⟨S1, q1, k1⟩ := h1 P ρ S s a P1 e1
  obtain ⟨S2, q2, k2⟩ := h2 P1 ρ S1 (s.pen k1) b _ e2
  refine ⟨S2, ?_, k1.trans s.lt k2⟩
  show ((m1 ρ S).bind fun p => (m2 ρ p.2).bind fun q => f p.1 q.1 q.2) = _
  rw [q1]
  show ((m2 ρ S1).bind fun q => f (A a) q.1 q.2) = _
  rw [q2]
  exact hf a b c S2 e3
theorem px_map {B : β → D} {f : α → β} (h : PX S0 p sl m t A) (hE : ∀ a, A a = B (f a)) : PX S0 p sl m (bP t fun a => lP (some (f a))) B := fun P ρ S s b P' e => by
  obtain ⟨a, P1, e1, e⟩ := bP_some e
  obtain ⟨e2, rfl⟩ := lP_some e
  cases e2
  obtain ⟨S', q, k⟩ := h P ρ S s a _ e1
  exact ⟨S', by rw [q, hE], k⟩
theorem px_if {c : MTst} {tc : PM Bool} {ta tb : PM α} (hc : PT S0 p sl c tc) (ha : PX S0 p sl m1 ta A) (hb : PX S0 p sl m2 tb A) : PX S0 p sl (mIf c m1 m2) (bP tc fun k => cond k ta tb) A := fun P ρ S s a P' e => by
  obtain ⟨k, P1, e1, e⟩ := bP_some e
  obtain ⟨S1, q1, k1⟩ := hc P ρ S s k P1 e1
  show ∃ S', ((c ρ S).bind fun p => if p.1 then m1 ρ p.2 else m2 ρ p.2) = _ ∧ _
  rw [q1]
  cases k with
  | true => obtain ⟨S2, q2, k2⟩ := ha P1 ρ S1 (s.pen k1) a P' e; exact ⟨S2, q2, k1.trans s.lt k2⟩
  | false => obtain ⟨S2, q2, k2⟩ := hb P1 ρ S1 (s.pen k1) a P' e; exact ⟨S2, q2, k1.trans s.lt k2⟩
theorem pt_B {ta : PM Bool} (ha : PX S0 p sl m1 ta eB) : PT S0 p sl (mB m1) ta := fun P ρ S s a P' e => by
  obtain ⟨S1, q1, k1⟩ := ha P ρ S s a P' e
  exact ⟨S1, by unfold mB; rw [q1]; rfl, k1⟩
theorem pi_range1 {tj : PM Int} (h : PX S0 p sl m tj eI) : PI S0 p sl (mRange1 (mCons m mNil)) (bP tj fun j => lP (rng1 j)) eI := fun P ρ S s xs P' e => by
  obtain ⟨j, P1, e1, e⟩ := bP_some e
  obtain ⟨e9, rfl⟩ := lP_some e; have e := e9
  obtain ⟨S1, q, a1⟩ := h P ρ S s j _ e1
  have e2 : mCons m mNil ρ S = some ([eI j], S1) := by simp only [mCons, mNil, q, Option.bind_some]
  refine ⟨S1, ?_, a1⟩
  unfold mRange1
  rw [e2]
  unfold rng1 at e
  cases k : r62 j with
  | true =>
    rw [k] at e
    cases e
    show (if r62 j = true then some ((rangeD 0 j.toNat, always), S1) else none) = _
    rw [if_pos k, rangeI_map]
  | false => rw [k] at e; cases e
theorem compP_some {c : α → PM Bool} {f : α → PM β} {xs : List α} {ys : List β} {P P' : Pn} (h : compP c f xs P = some (ys, P')) : xs.length ≤ szl ∧ compGoP c f xs P = some (ys, P') := by
  unfold compP at h
  cases k : Nat.ble xs.length 16777216 with
  | true => rw [k] at h; exact ⟨Nat.le_of_ble_eq_true k, h⟩
  | false => rw [k] at h; cases h
theorem po_lc {i : MItr} {g : MTg} {c : MTst} {e : MExp} {vs : List Nat} {ti : PM (List α)} {tc : α → PM Bool} {te : α → PM β} {slg : α → List Sl} (hi : PI S0 p sl i ti A) (hg : ∀ a S0, XG S0 (wipeS sl vs) g (A a) (slg a)) (hc : ∀ a, PT S0 p (slg a) c (tc a)) (he : ∀ a, PX S0 p (slg a) e (te a) B) :
    PO S0 p sl (mLc i g c e vs) (bP ti fun xs => compP tc te xs) B := fun P ρ S s ys P' eq => by
  obtain ⟨xs, P1, e1, eq⟩ := bP_some eq
  obtain ⟨hz, eq⟩ := compP_some eq
  obtain ⟨S1, q, a1⟩ := hi P ρ S s xs P1 e1
  have s1 := s.pen a1
  have hp1 : p < S1.length := s1.lt
  have w1 : Pf S0 p (wipeS sl vs) P1 (wipeD ρ vs) S1 := ⟨s1.sx.wipe vs, s1.lo⟩
  have go : ∀ (xs : List α) (ys acc : List β) (T : Store) (P1 P' : Pn), Pf S0 p (wipeS sl vs) P1 (wipeD ρ vs) T → St p P1 S1 T → T[S1.length]? = some (.lst (acc.map B)) → acc.length + xs.length ≤ szl → compGoP tc te xs P1 = some (ys, P') →
      ∃ T', lcL always g c e (wipeD ρ vs) S1.length (xs.map A) T = some T' ∧ St p P' S1 T' ∧ T'[S1.length]? = some (.lst ((acc ++ ys).map B)) := by
    intro xs
    induction xs with
    | nil => intro ys acc T P1 P' w a h hz eq; obtain ⟨e2, rfl⟩ := lP_some eq; cases e2; exact ⟨T, rfl, a, by rw [List.append_nil]; exact h⟩
    | cons x xs ih =>
      intro ys acc T P1 P' w a h hz eq
      obtain ⟨k, P2, e2, eq⟩ := bP_some eq
      obtain ⟨ρ1, q1, k1⟩ := hg x _ (wipeD ρ vs) T w.sx
      have w2 : Pf S0 p (slg x) P1 ρ1 T := ⟨k1, w.lo⟩
      obtain ⟨T2, q2, a2⟩ := hc x P1 ρ1 T w2 k P2 e2
      have hl : acc.length + (xs.length + 1) ≤ szl := hz
      have un : lcL always g c e (wipeD ρ vs) S1.length ((x :: xs).map A) T = (if k = true then (e ρ1 T2).bind fun y => (mat y.2 S1.length).bind fun acc =>
          if acc.length < szl then lcL always g c e (wipeD ρ vs) S1.length (xs.map A) (y.2.set S1.length (.lst (acc ++ [y.1]))) else none
        else lcL always g c e (wipeD ρ vs) S1.length (xs.map A) T2) := by
        show (if always T = true then (g (A x) (wipeD ρ vs) T).bind fun p => (c p.1 p.2).bind fun k => if k.1 then (e p.1 k.2).bind fun y => (mat y.2 S1.length).bind fun acc =>
            if acc.length < szl then lcL always g c e (wipeD ρ vs) S1.length (xs.map A) (y.2.set S1.length (.lst (acc ++ [y.1]))) else none
          else lcL always g c e (wipeD ρ vs) S1.length (xs.map A) k.2 else none) = _
        rw [if_pos (show always T = true from rfl), q1]
        show ((c ρ1 T).bind fun k => if k.1 then (e ρ1 k.2).bind fun y => (mat y.2 S1.length).bind fun acc =>
            if acc.length < szl then lcL always g c e (wipeD ρ vs) S1.length (xs.map A) (y.2.set S1.length (.lst (acc ++ [y.1]))) else none
          else lcL always g c e (wipeD ρ vs) S1.length (xs.map A) k.2) = _
        rw [q2]
        rfl
      have hnp : S1.length ≠ p := by omega
      cases k with
      | true =>
        rw [cond_true] at eq
        obtain ⟨y, P3, e3, eq⟩ := bP_some eq
        obtain ⟨zs, P4, e4, eq⟩ := bP_some eq
        obtain ⟨e5, rfl⟩ := lP_some eq
        cases e5
        obtain ⟨T3, q3, a3⟩ := he x P2 ρ1 T2 (w2.pen a2) y P3 e3
        have h3 := a3.get hnp (a2.get hnp h)
        have a4 : St p P3 T T3 := a2.trans w2.lt a3
        have a5 : St p P3 S1 (T3.set S1.length (.lst ((acc ++ [y]).map B))) := (a.trans hp1 a4).wr (Nat.le_refl _)
        obtain ⟨T4, q4, a6, h4⟩ := ih zs (acc ++ [y]) (T3.set S1.length (.lst ((acc ++ [y]).map B))) P3 _ (w1.pen a5) a5 (get_set h3) (by rw [List.length_append, List.length_singleton]; omega) e4
        refine ⟨T4, ?_, a6, by rw [h4, List.append_assoc]; rfl⟩
        rw [un, if_pos rfl, q3]
        show ((mat T3 S1.length).bind fun acc => if acc.length < szl then lcL always g c e (wipeD ρ vs) S1.length (xs.map A) (T3.set S1.length (.lst (acc ++ [B y]))) else none) = _
        rw [mat_lst h3]
        show (if (acc.map B).length < szl then lcL always g c e (wipeD ρ vs) S1.length (xs.map A) (T3.set S1.length (.lst (acc.map B ++ [B y]))) else none) = _
        rw [List.length_map, if_pos (by omega)]
        rw [List.map_append] at q4
        exact q4
      | false =>
        have a4 : St p P2 S1 T2 := a.trans hp1 a2
        obtain ⟨T4, q4, a5, h4⟩ := ih ys acc T2 P2 _ (w1.pen a4) a4 (a2.get hnp h) (by omega) eq
        exact ⟨T4, by rw [un]; exact q4, a5, h4⟩
  have a0 : All S1 (S1 ++ [.lst []]) := .app
  obtain ⟨T, q2, a2, h2⟩ := go xs ys [] (S1 ++ [.lst []]) P1 P' (w1.pen (w1.st a0)) (w1.st a0) get_new (by rw [List.length_nil, Nat.zero_add]; exact hz) eq
  refine ⟨S1.length, T, ?_, a1.trans s.lt a2, a1.len, h2⟩
  unfold mLc
  rw [q]
  show ((lcL always g c e (wipeD ρ vs) S1.length (xs.map A) (S1 ++ [.lst []])).bind fun S2 => some (D.lr S1.length, S2)) = _
  rw [q2]
  rfl
theorem px_fz {tx : PM (List α)} (h : PO S0 p sl m tx A) : PX S0 p sl (mFz m) tx (eL A) := fun P ρ S s xs P' e => by
  obtain ⟨n, S1, q, a, hn, hg⟩ := h P ρ S s xs P' e
  refine ⟨S1.set n .gone, ?_, a.wr hn⟩
  unfold mFz
  rw [q]
  show fzD S1 (.lr n) = _
  unfold fzD
  simp only [hg]
theorem px_lc {i : MItr} {g : MTg} {c : MTst} {e : MExp} {vs : List Nat} {ti : PM (List α)} {tc : α → PM Bool} {te : α → PM β} {slg : α → List Sl} (hi : PI S0 p sl i ti A) (hg : ∀ a S0, XG S0 (wipeS sl vs) g (A a) (slg a)) (hc : ∀ a, PT S0 p (slg a) c (tc a)) (he : ∀ a, PX S0 p (slg a) e (te a) B) :
    PX S0 p sl (mFz (mLc i g c e vs)) (bP ti fun xs => compP tc te xs) (eL B) := px_fz (po_lc hi hg hc he)
theorem pr_ret (h : PX S0 p sl m t A) : PR S0 p sl (mRet m) t A := fun P ρ S s b P' e => by
  obtain ⟨S1, q, a⟩ := h P ρ S s b P' e
  exact ⟨ρ, S1, by unfold mRet; rw [q]; rfl, (s.pen a).sx.all⟩
theorem pr_seqN {ts : PM σ} {sl1 : σ → List Sl} {tr : σ → PM α} (h : PN S0 p sl s1 ts sl1) (hr : ∀ x, PR S0 p (sl1 x) r (tr x) A) : PR S0 p sl (mSeq s1 r) (bP ts tr) A := fun P ρ S s b P' e => by
  obtain ⟨x, P1, e1, e⟩ := bP_some e
  obtain ⟨ρ1, S1, q, s1⟩ := h P ρ S s x P1 e1
  obtain ⟨ρ2, S2, q2, a2⟩ := hr x P1 ρ1 S1 s1 b P' e
  exact ⟨ρ2, S2, by unfold mSeq; rw [q]; exact q2, a2⟩
theorem pr_seqB {ts : PM (Out σ α)} {sl1 : σ → List Sl} {tr : σ → PM α} (h : PB S0 p sl s1 ts sl1 A) (hr : ∀ x, PR S0 p (sl1 x) r (tr x) A) : PR S0 p sl (mSeq s1 r) (bP ts fun o => o.by tr fun b => lP (some b)) A := fun P ρ S s b P' e => by
  obtain ⟨o, P1, e1, e⟩ := bP_some e
  obtain ⟨f, ρ1, S1, q, k⟩ := h P ρ S s o P1 e1
  cases o with
  | nx x =>
    obtain ⟨rfl, s1⟩ := k
    obtain ⟨ρ2, S2, q2, a2⟩ := hr x P1 ρ1 S1 s1 b P' e
    exact ⟨ρ2, S2, by unfold mSeq; rw [q]; exact q2, a2⟩
  | rt b' =>
    obtain ⟨rfl, a⟩ := k
    obtain ⟨e2, rfl⟩ := lP_some e
    cases e2
    exact ⟨ρ1, S1, by unfold mSeq; rw [q]; rfl, a⟩
theorem pr_ifr {c : MTst} {tc : PM Bool} {ta tb : PM α} (hc : PT S0 p sl c tc) (ha : PR S0 p sl s1 ta A) (hb : PR S0 p sl r tb A) : PR S0 p sl (mSeq (mIfS c s1 mNx) r) (bP tc fun k => cond k ta tb) A := fun P ρ S s b P' e => by
  obtain ⟨k, P1, e1, e⟩ := bP_some e
  obtain ⟨S1, q, a1⟩ := hc P ρ S s k P1 e1
  rw [seq_nx q]
  cases k with
  | true =>
    obtain ⟨ρ2, S2, q2, a2⟩ := ha P1 ρ S1 (s.pen a1) b P' e
    exact ⟨ρ2, S2, rt_seq q2, a2⟩
  | false => exact hb P1 ρ S1 (s.pen a1) b P' e
theorem pn_seq {ts : PM σ} {sl1 : σ → List Sl} {tr : σ → PM τ} {sl' : τ → List Sl} (h : PN S0 p sl s1 ts sl1) (hr : ∀ x, PN S0 p (sl1 x) r (tr x) sl') : PN S0 p sl (mSeq s1 r) (bP ts tr) sl' := fun P ρ S s b P' e => by
  obtain ⟨x, P1, e1, e⟩ := bP_some e
  obtain ⟨ρ1, S1, q, s1⟩ := h P ρ S s x P1 e1
  obtain ⟨ρ2, S2, q2, a2⟩ := hr x P1 ρ1 S1 s1 b P' e
  exact ⟨ρ2, S2, by unfold mSeq; rw [q]; exact q2, a2⟩
theorem pn_asg {i : Nat} (h : PX S0 p sl m t A) : PN S0 p sl (mAsg m (mName i)) t (fun a => sl.set i (.val (A a))) := fun P ρ S s a P' e => by
  obtain ⟨S1, q, a1⟩ := h P ρ S s a P' e
  exact ⟨_, S1, by unfold mAsg; rw [q]; rfl, (s.pen a1).sx.set, s.lo⟩
theorem pn_asgG {g : MTg} {sl1 : α → List Sl} (h : PX S0 p sl m t A) (hg : ∀ a S0, XG S0 sl g (A a) (sl1 a)) : PN S0 p sl (mAsg m g) t sl1 := fun P ρ S s a P' e => by
  obtain ⟨S1, q, a1⟩ := h P ρ S s a P' e
  obtain ⟨ρ1, q1, s1⟩ := hg a _ ρ S1 (s.pen a1).sx
  exact ⟨ρ1, S1, by unfold mAsg; rw [q]; show ((g (A a) ρ S1).bind _) = _; rw [q1]; rfl, s1, s.lo⟩
theorem pn_st {ts : PM σ} {sl1 : σ → List Sl} {f : σ → τ} {sl' : τ → List Sl} (h : PN S0 p sl s1 ts sl1) (hk : ∀ x, Wk (sl1 x) (sl' (f x))) : PN S0 p sl s1 (bP ts fun x => lP (some (f x))) sl' := fun P ρ S s b P' e => by
  obtain ⟨x, P1, e1, e⟩ := bP_some e
  obtain ⟨e2, rfl⟩ := lP_some e
  cases e2
  obtain ⟨ρ1, S1, q, k⟩ := h P ρ S s x _ e1
  exact ⟨ρ1, S1, q, k.sx.wk (hk x), k.lo⟩
theorem pn_if {c : MTst} {tc : PM Bool} {ta tb : PM σ} {sl' : σ → List Sl} (hc : PT S0 p sl c tc) (ha : PN S0 p sl s1 ta sl') (hb : PN S0 p sl s2 tb sl') : PN S0 p sl (mIfS c s1 s2) (bP tc fun k => cond k ta tb) sl' := fun P ρ S s b P' e => by
  obtain ⟨k, P1, e1, e⟩ := bP_some e
  obtain ⟨S1, q, a1⟩ := hc P ρ S s k P1 e1
  unfold mIfS
  rw [q]
  cases k with
  | true => exact ha P1 ρ S1 (s.pen a1) b P' e
  | false => exact hb P1 ρ S1 (s.pen a1) b P' e
theorem Pf.own_ {P : Pn} {ρ : Ev} {i : Nat} {ds : List D} (s : Pf S0 p sl P ρ S) (h : sl[i]? = some (.own ds)) : ∃ k, ρ[i]? = some (some (.lr k)) ∧ S[k]? = some (.lst ds) ∧ k ≠ p := by
  obtain ⟨k, k1, k2, k3⟩ := s.sx.own i ds h
  rw [List.length_set] at k3
  have := s.lo
  exact ⟨k, k1, k2, by omega⟩
theorem pn_app {i : Nat} {xs : List α} (h : sl[i]? = some (.own (xs.map A))) (he : PX S0 p sl m t A) : PN S0 p sl (mDrop (mApp (mVar i) (mCons m mNil))) (bP t fun a => lP (pushM xs a)) (fun ys => sl.set i (.own (ys.map A))) := fun P ρ S s ys P' e => by
  obtain ⟨a, P1, e1, e⟩ := bP_some e
  obtain ⟨e9, rfl⟩ := lP_some e; have e := e9
  obtain ⟨hz, rfl⟩ := pushM_some e
  obtain ⟨S1, q, a1⟩ := he P ρ S s a _ e1
  obtain ⟨k, k1, k2, k3⟩ := s.own_ h
  have k2' := a1.get k3 k2
  refine ⟨ρ, S1.set k (.lst ((xs ++ [a]).map A)), ?_, (s.pen a1).sx.wr h k1, s.lo⟩
  unfold mDrop mApp
  have e1 : mVar i ρ S = some (.lr k, S) := by unfold mVar; rw [k1]
  rw [e1]
  have e2 : mCons m mNil ρ S = some ([A a], S1) := by simp only [mCons, mNil, q, Option.bind_some]
  show ((((mat S k).bind fun _ => (mCons m mNil ρ S).bind fun q => match q.1 with
    | [d] => (mat q.2 k).bind fun ds => if ds.length < szl then some (D.non, q.2.set k (.lst (ds ++ [d]))) else none
    | _ => none)).bind fun p => some (Fl.nx, ρ, p.2)) = _
  rw [mat_lst k2]
  show (((mCons m mNil ρ S).bind fun q => match q.1 with
    | [d] => (mat q.2 k).bind fun ds => if ds.length < szl then some (D.non, q.2.set k (.lst (ds ++ [d]))) else none
    | _ => none).bind fun p => some (Fl.nx, ρ, p.2)) = _
  rw [e2]
  show (((mat S1 k).bind fun ds => if ds.length < szl then some (D.non, S1.set k (.lst (ds ++ [A a]))) else none).bind fun p => some (Fl.nx, ρ, p.2)) = _
  rw [mat_lst k2']
  show ((if (xs.map A).length < szl then some (D.non, S1.set k (.lst (xs.map A ++ [A a]))) else none).bind fun p => some (Fl.nx, ρ, p.2)) = _
  rw [List.length_map, if_pos hz, List.map_append]
  rfl
theorem pb_seqN {ts : PM σ} {sl1 : σ → List Sl} {tr : σ → PM (Out τ α)} {sl' : τ → List Sl} (h : PN S0 p sl s1 ts sl1) (hr : ∀ x, PB S0 p (sl1 x) r (tr x) sl' A) : PB S0 p sl (mSeq s1 r) (bP ts tr) sl' A := fun P ρ S s b P' e => by
  obtain ⟨x, P1, e1, e⟩ := bP_some e
  obtain ⟨ρ1, S1, q, s1⟩ := h P ρ S s x P1 e1
  obtain ⟨f, ρ2, S2, q2, a2⟩ := hr x P1 ρ1 S1 s1 b P' e
  exact ⟨f, ρ2, S2, by unfold mSeq; rw [q]; exact q2, a2⟩
theorem pn_for {i : MItr} {g : MTg} {b : MStm} {ti : PM (List α)} {tb : α → σ → PM σ} {s0 : σ} {slσ : σ → List Sl} {slg : σ → α → List Sl} (hi : PI S0 p sl i ti A) (hw : Wk sl (slσ s0)) (hg : ∀ s a S0, XG S0 (slσ s) g (A a) (slg s a)) (hb : ∀ s a, PN S0 p (slg s a) b (tb a s) slσ) :
    PN S0 p sl (mFor i g b) (bP ti fun xs => loopP tb xs s0) slσ := fun P ρ S s s' P' e => by
  obtain ⟨xs, P1, e1, e⟩ := bP_some e
  obtain ⟨S1, q, a1⟩ := hi P ρ S s xs P1 e1
  have go : ∀ (xs : List α) (s0 : σ) (P1 : Pn) (ρ : Ev) (S : Store), Pf S0 p (slσ s0) P1 ρ S → loopP tb xs s0 P1 = some (s', P') → ∃ ρ' S', forL always g b (xs.map A) ρ S = some (.nx, ρ', S') ∧ Pf S0 p (slσ s') P' ρ' S' := by
    intro xs
    induction xs with
    | nil => intro s0 P1 ρ S k e; obtain ⟨e9, rfl⟩ := lP_some e; have e := e9; cases e; exact ⟨ρ, S, rfl, k⟩
    | cons x xs ih =>
      intro s0 P1 ρ S k e
      obtain ⟨s1, P2, e2, e⟩ := bP_some e
      obtain ⟨ρ1, q1, k1⟩ := hg s0 x _ ρ S k.sx
      obtain ⟨ρ2, S2, q2, k2⟩ := hb s0 x P1 ρ1 S ⟨k1, k.lo⟩ s1 P2 e2
      obtain ⟨ρ3, S3, q3, k3⟩ := ih s1 P2 ρ2 S2 k2 e
      exact ⟨ρ3, S3, by rw [List.map_cons, forL_cons q1 q2]; exact q3, k3⟩
  obtain ⟨ρ', S', q2, k2⟩ := go xs s0 P1 ρ S1 ⟨(s.pen a1).sx.wk hw, s.lo⟩ e
  exact ⟨ρ', S', by unfold mFor; rw [q]; exact q2, k2⟩
theorem pb_for {i : MItr} {g : MTg} {b : MStm} {ti : PM (List α)} {tb : α → σ → PM (Out σ β)} {s0 : σ} {slσ : σ → List Sl} {slg : σ → α → List Sl} (hi : PI S0 p sl i ti A) (hw : Wk sl (slσ s0)) (hg : ∀ s a S0, XG S0 (slσ s) g (A a) (slg s a)) (hb : ∀ s a, PB S0 p (slg s a) b (tb a s) slσ B) :
    PB S0 p sl (mFor i g b) (bP ti fun xs => loopRP tb xs s0) slσ B := fun P ρ S s o P' e => by
  obtain ⟨xs, P1, e1, e⟩ := bP_some e
  obtain ⟨S1, q, a1⟩ := hi P ρ S s xs P1 e1
  have go : ∀ (xs : List α) (s0 : σ) (P1 : Pn) (ρ : Ev) (S : Store), Pf S0 p (slσ s0) P1 ρ S → loopRP tb xs s0 P1 = some (o, P') → ∃ f ρ' S', forL always g b (xs.map A) ρ S = some (f, ρ', S') ∧ OutP S0 p slσ B f P' ρ' S' o := by
    intro xs
    induction xs with
    | nil => intro s0 P1 ρ S k e; obtain ⟨e9, rfl⟩ := lP_some e; have e := e9; cases e; exact ⟨_, ρ, S, rfl, rfl, k⟩
    | cons x xs ih =>
      intro s0 P1 ρ S k e
      obtain ⟨o1, P2, e2, e⟩ := bP_some e
      obtain ⟨ρ1, q1, k1⟩ := hg s0 x _ ρ S k.sx
      obtain ⟨f2, ρ2, S2, q2, k2⟩ := hb s0 x P1 ρ1 S ⟨k1, k.lo⟩ o1 P2 e2
      have un : forL always g b ((x :: xs).map A) ρ S = stepL g b (xs.map A) f2 ρ2 S2 := by rw [List.map_cons, forL_cons q1 q2]
      cases o1 with
      | nx s1 =>
        obtain ⟨rfl, k2⟩ := k2
        obtain ⟨f3, ρ3, S3, q3, k3⟩ := ih s1 P2 ρ2 S2 k2 e
        exact ⟨f3, ρ3, S3, by rw [un]; exact q3, k3⟩
      | rt b' =>
        obtain ⟨e9, rfl⟩ := lP_some e; have e := e9
        cases e
        obtain ⟨rfl, k2⟩ := k2
        exact ⟨_, ρ2, S2, by rw [un]; rfl, rfl, k2⟩
  obtain ⟨f, ρ', S', q2, k2⟩ := go xs s0 P1 ρ S1 ⟨(s.pen a1).sx.wk hw, s.lo⟩ e
  exact ⟨f, ρ', S', by unfold mFor; rw [q]; exact q2, k2⟩
theorem gps_of {np n : Nat} {M : MStm} {ds : List D} (hl : ds.length + 1 = np) (h : ∀ S p, PR S p (.val (.lr p) :: (ds.map Sl.val ++ List.replicate (n - (ds.length + 1)) Sl.unk)) M t A) : Gps (den np n M) ds t A := fun S p P hp a P' e => by
  have s0 := sx_start (S := S) (ds := .lr p :: ds) (n := n)
  have e1 : (D.lr p :: ds).map Sl.val ++ List.replicate (n - (D.lr p :: ds).length) Sl.unk = .val (.lr p) :: (ds.map Sl.val ++ List.replicate (n - (ds.length + 1)) Sl.unk) := by
    simp
  rw [e1] at s0
  have s1 : Pf S p (.val (.lr p) :: (ds.map Sl.val ++ List.replicate (n - (ds.length + 1)) Sl.unk)) P (startD n (.lr p :: ds)) S := ⟨by rw [set_same hp]; exact s0, (List.getElem?_eq_some_iff.mp hp).1⟩
  obtain ⟨ρ', S', q, k⟩ := h S p P _ S s1 a P' e
  refine ⟨S', ?_, k⟩
  unfold den
  rw [if_pos (by rw [List.length_cons]; exact hl), q]
end
end TM
set_option Elab.async false
set_option linter.all false
set_option maxRecDepth 100000
set_option maxHeartbeats 4000000
namespace TM
open PySem PySem.Spec PyProof.Rows L2 MS
section
variable {α β γ δ : Type} {S0 : Store} {p : Nat} {sl : List Sl} {m m1 m2 m3 m4 m5 m6 m7 : MExp} {A : α → D} {B : β → D} {C : γ → D}
theorem px_pcall0  {i : Nat} {F : DCall} {f : PM γ} (hp : sl[i]? = some (.val (.lr p)))  (hf : Gps F [] (f ) C) : PX S0 p sl (mCall F (mCons (mVar i) mNil)) (f ) C := fun P ρ S s c P9 e => by
  obtain ⟨S9, q9, a9⟩ := hf  S p P (s).at_ c P9 e
  refine ⟨S9, ?_, a9⟩
  have v : mVar i ρ S = some (.lr p, S) := by unfold mVar; rw [s.sx.val i _ hp]
  have q : mCons (mVar i) mNil ρ S = some (.lr p :: [], S) := by simp only [mCons, mNil, v,  Option.bind_some]
  unfold mCall
  rw [q]
  exact q9
theorem px_call1 {τ1 : Type} {n1 : MExp} {u1 : PM τ1} {E1 : τ1 → D} {F : DCall} {f : τ1 → Option γ} (h1 : PX S0 p sl n1 u1 E1) (hf : ∀ x1, Gvs F [E1 x1] (f x1) C) : PX S0 p sl (mCall F (mCons n1 mNil)) (bP u1 fun x1 => lP (f x1)) C := fun P ρ S s c P9 e => by
  obtain ⟨x1, P1, e1, e⟩ := bP_some e
  obtain ⟨S1, q1, a1⟩ := h1 P ρ S s x1 P1 e1
  have s1 := (s).pen a1
  have b1 := a1
  obtain ⟨ey, ez⟩ := lP_some e
  subst ez
  obtain ⟨S9, q9, a9⟩ := hf x1 c ey S1
  refine ⟨S9, ?_, b1.all a9⟩
  have q : (mCons n1 mNil) ρ S = some ([E1 x1], S1) := by simp only [mCons, mNil, q1, Option.bind_some]
  unfold mCall
  rw [q]
  exact q9
theorem px_pcall1 {τ1 : Type} {n1 : MExp} {u1 : PM τ1} {E1 : τ1 → D} {i : Nat} {F : DCall} {f : τ1 → PM γ} (hp : sl[i]? = some (.val (.lr p))) (h1 : PX S0 p sl n1 u1 E1) (hf : ∀ x1, Gps F [E1 x1] (f x1) C) : PX S0 p sl (mCall F (mCons (mVar i) (mCons n1 mNil))) (bP u1 fun x1 => f x1) C := fun P ρ S s c P9 e => by
  obtain ⟨x1, P1, e1, e⟩ := bP_some e
  obtain ⟨S1, q1, a1⟩ := h1 P ρ S s x1 P1 e1
  have s1 := (s).pen a1
  have b1 := a1
  obtain ⟨S9, q9, a9⟩ := hf x1 S1 p P1 (s1).at_ c P9 e
  refine ⟨S9, ?_, b1.trans s.lt a9⟩
  have v : mVar i ρ S = some (.lr p, S) := by unfold mVar; rw [s.sx.val i _ hp]
  have q : mCons (mVar i) (mCons n1 mNil) ρ S = some (.lr p :: [E1 x1], S1) := by simp only [mCons, mNil, v, q1,  Option.bind_some]
  unfold mCall
  rw [q]
  exact q9
theorem px_pcall2 {τ1 : Type} {n1 : MExp} {u1 : PM τ1} {E1 : τ1 → D} {τ2 : Type} {n2 : MExp} {u2 : PM τ2} {E2 : τ2 → D} {i : Nat} {F : DCall} {f : τ1 → τ2 → PM γ} (hp : sl[i]? = some (.val (.lr p))) (h1 : PX S0 p sl n1 u1 E1) (h2 : PX S0 p sl n2 u2 E2) (hf : ∀ x1 x2, Gps F [E1 x1, E2 x2] (f x1 x2) C) : PX S0 p sl (mCall F (mCons (mVar i) (mCons n1 (mCons n2 mNil)))) (bP u1 fun x1 => bP u2 fun x2 => f x1 x2) C := fun P ρ S s c P9 e => by
  obtain ⟨x1, P1, e1, e⟩ := bP_some e
  obtain ⟨x2, P2, e2, e⟩ := bP_some e
  obtain ⟨S1, q1, a1⟩ := h1 P ρ S s x1 P1 e1
  have s1 := (s).pen a1
  have b1 := a1
  obtain ⟨S2, q2, a2⟩ := h2 P1 ρ S1 s1 x2 P2 e2
  have s2 := (s1).pen a2
  have b2 := b1.trans s.lt a2
  obtain ⟨S9, q9, a9⟩ := hf x1 x2 S2 p P2 (s2).at_ c P9 e
  refine ⟨S9, ?_, b2.trans s.lt a9⟩
  have v : mVar i ρ S = some (.lr p, S) := by unfold mVar; rw [s.sx.val i _ hp]
  have q : mCons (mVar i) (mCons n1 (mCons n2 mNil)) ρ S = some (.lr p :: [E1 x1, E2 x2], S2) := by simp only [mCons, mNil, v, q1, q2,  Option.bind_some]
  unfold mCall
  rw [q]
  exact q9
theorem px_tup2 {τ1 : Type} {n1 : MExp} {u1 : PM τ1} {E1 : τ1 → D} {τ2 : Type} {n2 : MExp} {u2 : PM τ2} {E2 : τ2 → D} {C : γ → D} (f : τ1 → τ2 → γ) (h1 : PX S0 p sl n1 u1 E1) (h2 : PX S0 p sl n2 u2 E2) (hE : ∀ x1 x2, D.tup [E1 x1, E2 x2] = C (f x1 x2)) : PX S0 p sl (mTup (mCons n1 (mCons n2 mNil))) (bP u1 fun x1 => bP u2 fun x2 => lP (some (f x1 x2))) C := fun P ρ S s c P9 e => by
  obtain ⟨x1, P1, e1, e⟩ := bP_some e
  obtain ⟨x2, P2, e2, e⟩ := bP_some e
  obtain ⟨S1, q1, a1⟩ := h1 P ρ S s x1 P1 e1
  have s1 := (s).pen a1
  have b1 := a1
  obtain ⟨S2, q2, a2⟩ := h2 P1 ρ S1 s1 x2 P2 e2
  have s2 := (s1).pen a2
  have b2 := b1.trans s.lt a2
  obtain ⟨ey, ez⟩ := lP_some e
  subst ez
  cases ey
  refine ⟨S2, ?_, b2⟩
  have q : (mCons n1 (mCons n2 mNil)) ρ S = some ([E1 x1, E2 x2], S2) := by simp only [mCons, mNil, q1, q2, Option.bind_some]
  unfold mTup
  rw [q]
  show (if ([E1 x1, E2 x2] : List D).length ≤ szl then some (D.tup [E1 x1, E2 x2], S2) else none) = _
  rw [if_pos (Nat.le_of_ble_eq_true rfl), hE]
theorem px_tup3 {τ1 : Type} {n1 : MExp} {u1 : PM τ1} {E1 : τ1 → D} {τ2 : Type} {n2 : MExp} {u2 : PM τ2} {E2 : τ2 → D} {τ3 : Type} {n3 : MExp} {u3 : PM τ3} {E3 : τ3 → D} {C : γ → D} (f : τ1 → τ2 → τ3 → γ) (h1 : PX S0 p sl n1 u1 E1) (h2 : PX S0 p sl n2 u2 E2) (h3 : PX S0 p sl n3 u3 E3) (hE : ∀ x1 x2 x3, D.tup [E1 x1, E2 x2, E3 x3] = C (f x1 x2 x3)) : PX S0 p sl (mTup (mCons n1 (mCons n2 (mCons n3 mNil)))) (bP u1 fun x1 => bP u2 fun x2 => bP u3 fun x3 => lP (some (f x1 x2 x3))) C := fun P ρ S s c P9 e => by
  obtain ⟨x1, P1, e1, e⟩ := bP_some e
  obtain ⟨x2, P2, e2, e⟩ := bP_some e
  obtain ⟨x3, P3, e3, e⟩ := bP_some e
  obtain ⟨S1, q1, a1⟩ := h1 P ρ S s x1 P1 e1
  have s1 := (s).pen a1
  have b1 := a1
  obtain ⟨S2, q2, a2⟩ := h2 P1 ρ S1 s1 x2 P2 e2
  have s2 := (s1).pen a2
  have b2 := b1.trans s.lt a2
  obtain ⟨S3, q3, a3⟩ := h3 P2 ρ S2 s2 x3 P3 e3
  have s3 := (s2).pen a3
  have b3 := b2.trans s.lt a3
  obtain ⟨ey, ez⟩ := lP_some e
  subst ez
  cases ey
  refine ⟨S3, ?_, b3⟩
  have q : (mCons n1 (mCons n2 (mCons n3 mNil))) ρ S = some ([E1 x1, E2 x2, E3 x3], S3) := by simp only [mCons, mNil, q1, q2, q3, Option.bind_some]
  unfold mTup
  rw [q]
  show (if ([E1 x1, E2 x2, E3 x3] : List D).length ≤ szl then some (D.tup [E1 x1, E2 x2, E3 x3], S3) else none) = _
  rw [if_pos (Nat.le_of_ble_eq_true rfl), hE]
theorem px_tup4 {τ1 : Type} {n1 : MExp} {u1 : PM τ1} {E1 : τ1 → D} {τ2 : Type} {n2 : MExp} {u2 : PM τ2} {E2 : τ2 → D} {τ3 : Type} {n3 : MExp} {u3 : PM τ3} {E3 : τ3 → D} {τ4 : Type} {n4 : MExp} {u4 : PM τ4} {E4 : τ4 → D} {C : γ → D} (f : τ1 → τ2 → τ3 → τ4 → γ) (h1 : PX S0 p sl n1 u1 E1) (h2 : PX S0 p sl n2 u2 E2) (h3 : PX S0 p sl n3 u3 E3) (h4 : PX S0 p sl n4 u4 E4) (hE : ∀ x1 x2 x3 x4, D.tup [E1 x1, E2 x2, E3 x3, E4 x4] = C (f x1 x2 x3 x4)) : PX S0 p sl (mTup (mCons n1 (mCons n2 (mCons n3 (mCons n4 mNil))))) (bP u1 fun x1 => bP u2 fun x2 => bP u3 fun x3 => bP u4 fun x4 => lP (some (f x1 x2 x3 x4))) C := fun P ρ S s c P9 e => by
  obtain ⟨x1, P1, e1, e⟩ := bP_some e
  obtain ⟨x2, P2, e2, e⟩ := bP_some e
  obtain ⟨x3, P3, e3, e⟩ := bP_some e
  obtain ⟨x4, P4, e4, e⟩ := bP_some e
  obtain ⟨S1, q1, a1⟩ := h1 P ρ S s x1 P1 e1
  have s1 := (s).pen a1
  have b1 := a1
  obtain ⟨S2, q2, a2⟩ := h2 P1 ρ S1 s1 x2 P2 e2
  have s2 := (s1).pen a2
  have b2 := b1.trans s.lt a2
  obtain ⟨S3, q3, a3⟩ := h3 P2 ρ S2 s2 x3 P3 e3
  have s3 := (s2).pen a3
  have b3 := b2.trans s.lt a3
  obtain ⟨S4, q4, a4⟩ := h4 P3 ρ S3 s3 x4 P4 e4
  have s4 := (s3).pen a4
  have b4 := b3.trans s.lt a4
  obtain ⟨ey, ez⟩ := lP_some e
  subst ez
  cases ey
  refine ⟨S4, ?_, b4⟩
  have q : (mCons n1 (mCons n2 (mCons n3 (mCons n4 mNil)))) ρ S = some ([E1 x1, E2 x2, E3 x3, E4 x4], S4) := by simp only [mCons, mNil, q1, q2, q3, q4, Option.bind_some]
  unfold mTup
  rw [q]
  show (if ([E1 x1, E2 x2, E3 x3, E4 x4] : List D).length ≤ szl then some (D.tup [E1 x1, E2 x2, E3 x3, E4 x4], S4) else none) = _
  rw [if_pos (Nat.le_of_ble_eq_true rfl), hE]
theorem px_lst5 {τ1 : Type} {n1 : MExp} {u1 : PM τ1} {E1 : τ1 → D} {τ2 : Type} {n2 : MExp} {u2 : PM τ2} {E2 : τ2 → D} {τ3 : Type} {n3 : MExp} {u3 : PM τ3} {E3 : τ3 → D} {τ4 : Type} {n4 : MExp} {u4 : PM τ4} {E4 : τ4 → D} {τ5 : Type} {n5 : MExp} {u5 : PM τ5} {E5 : τ5 → D} {C : γ → D} (f : τ1 → τ2 → τ3 → τ4 → τ5 → γ) (h1 : PX S0 p sl n1 u1 E1) (h2 : PX S0 p sl n2 u2 E2) (h3 : PX S0 p sl n3 u3 E3) (h4 : PX S0 p sl n4 u4 E4) (h5 : PX S0 p sl n5 u5 E5) (hE : ∀ x1 x2 x3 x4 x5, D.lst [E1 x1, E2 x2, E3 x3, E4 x4, E5 x5] = C (f x1 x2 x3 x4 x5)) : PX S0 p sl (mLstV (mCons n1 (mCons n2 (mCons n3 (mCons n4 (mCons n5 mNil)))))) (bP u1 fun x1 => bP u2 fun x2 => bP u3 fun x3 => bP u4 fun x4 => bP u5 fun x5 => lP (some (f x1 x2 x3 x4 x5))) C := fun P ρ S s c P9 e => by
  obtain ⟨x1, P1, e1, e⟩ := bP_some e
  obtain ⟨x2, P2, e2, e⟩ := bP_some e
  obtain ⟨x3, P3, e3, e⟩ := bP_some e
  obtain ⟨x4, P4, e4, e⟩ := bP_some e
  obtain ⟨x5, P5, e5, e⟩ := bP_some e
  obtain ⟨S1, q1, a1⟩ := h1 P ρ S s x1 P1 e1
  have s1 := (s).pen a1
  have b1 := a1
  obtain ⟨S2, q2, a2⟩ := h2 P1 ρ S1 s1 x2 P2 e2
  have s2 := (s1).pen a2
  have b2 := b1.trans s.lt a2
  obtain ⟨S3, q3, a3⟩ := h3 P2 ρ S2 s2 x3 P3 e3
  have s3 := (s2).pen a3
  have b3 := b2.trans s.lt a3
  obtain ⟨S4, q4, a4⟩ := h4 P3 ρ S3 s3 x4 P4 e4
  have s4 := (s3).pen a4
  have b4 := b3.trans s.lt a4
  obtain ⟨S5, q5, a5⟩ := h5 P4 ρ S4 s4 x5 P5 e5
  have s5 := (s4).pen a5
  have b5 := b4.trans s.lt a5
  obtain ⟨ey, ez⟩ := lP_some e
  subst ez
  cases ey
  refine ⟨S5, ?_, b5⟩
  have q : (mCons n1 (mCons n2 (mCons n3 (mCons n4 (mCons n5 mNil))))) ρ S = some ([E1 x1, E2 x2, E3 x3, E4 x4, E5 x5], S5) := by simp only [mCons, mNil, q1, q2, q3, q4, q5, Option.bind_some]
  unfold mLstV
  rw [q]
  show (if ([E1 x1, E2 x2, E3 x3, E4 x4, E5 x5] : List D).length ≤ szl then some (D.lst [E1 x1, E2 x2, E3 x3, E4 x4, E5 x5], S5) else none) = _
  rw [if_pos (Nat.le_of_ble_eq_true rfl), hE]
end
end TM
set_option Elab.async false
set_option linter.all false
set_option maxRecDepth 100000
set_option maxHeartbeats 4000000
namespace TM
open PySem PySem.Spec PyProof.Rows L2 MS
section
variable {α β γ δ σ : Type} {S0 S S' : Store} {p : Nat} {sl : List Sl} {m m1 m2 : MExp} {r : MStm} {A : α → D} {B : β → D} {C : γ → D} {t1 : PM α} {t2 : PM β}
theorem px_part {i : Nat} {k : Int} {f : Pn → α} (hp : sl[i]? = some (.val (.lr p))) (hf : ∀ P, L2.atI [D.lst (P.ns.map D.int), .int P.seat, .int P.rest] k = some (A (f P))) : PX S0 p sl (mBin fIx (mVar i) (mC (.int k))) (fun P => some (f P, P)) A := fun P ρ S s a P' e => by
  cases e
  refine ⟨S, ?_, s.st .refl⟩
  have v : mVar i ρ S = some (.lr p, S) := by unfold mVar; rw [s.sx.val i _ hp]
  unfold mBin
  rw [v]
  show ((lat S p).bind fun ds => (L2.atI ds k).map fun d => (d, S)) = _
  rw [show lat S p = some [.lst (P.ns.map D.int), .int P.seat, .int P.rest] from lat_lst s.at_]
  show (L2.atI [D.lst (P.ns.map D.int), .int P.seat, .int P.rest] k).map (fun d => (d, S)) = _
  rw [hf]
  rfl
theorem pn_put {i j : Nat} {k : Int} {t : PM α} {f : α → Pn → Pn} (hp : sl[i]? = some (.val (.lr p))) (h : PX S0 p sl m t A) (hk : L2.ixN 3 k = some j) (hf : ∀ a P, MO.lst (List.set [D.lst (P.ns.map D.int), .int P.seat, .int P.rest] j (A a)) = pobj (f a P)) : PN S0 p sl (mAsg m (mgSub (mVar i) (mC (.int k)))) (bP t fun a P => some ((), f a P)) (fun _ => sl) := fun P ρ S s u P' e => by
  obtain ⟨a, P1, e1, e⟩ := bP_some e
  cases e
  obtain ⟨S1, q, a1⟩ := h P ρ S s a P1 e1
  have s1 := s.pen a1
  have v : mVar i ρ S1 = some (.lr p, S1) := by unfold mVar; rw [s1.sx.val i _ hp]
  refine ⟨ρ, S1.set p (pobj (f a P1)), ?_, s1.pen .refl⟩
  unfold mAsg mgSub
  rw [q]
  show (((mVar i ρ S1).bind fun p => (mC (.int k) ρ p.2).bind fun q => match p.1, q.1 with
    | .lr n, .int k => (mat q.2 n).bind fun ds => (L2.ixN ds.length k).bind fun j => some (ρ, q.2.set n (.lst (ds.set j (A a))))
    | _, _ => none).bind fun q => some (Fl.nx, q.1, q.2)) = _
  rw [v]
  show (((mat S1 p).bind fun ds => (L2.ixN ds.length k).bind fun j => some (ρ, S1.set p (.lst (ds.set j (A a))))).bind fun q => some (Fl.nx, q.1, q.2)) = _
  rw [mat_lst s1.at_]
  show ((L2.ixN 3 k).bind fun j => some (ρ, S1.set p (.lst (List.set [D.lst (P1.ns.map D.int), .int P1.seat, .int P1.rest] j (A a))))).bind (fun q => some (Fl.nx, q.1, q.2)) = _
  rw [hk]
  show some (Fl.nx, ρ, S1.set p (.lst (List.set [D.lst (P1.ns.map D.int), .int P1.seat, .int P1.rest] j (A a)))) = _
  rw [hf]
theorem pn_par {i j : Nat} (h1 : PX S0 p sl m1 t1 A) (h2 : PX S0 p sl m2 t2 B) : PN S0 p sl (mPar i j (mCons m1 (mCons m2 mNil))) (bP t1 fun a => bP t2 fun b => lP (some (a, b))) (fun q => (sl.set i (.val (A q.1))).set j (.val (B q.2))) := fun P ρ S s c P' e => by
  obtain ⟨a, P1, e1, e⟩ := bP_some e
  obtain ⟨b, P2, e2, e⟩ := bP_some e
  obtain ⟨e, e3⟩ := lP_some e
  subst e3
  cases e
  obtain ⟨S1, q1, a1⟩ := h1 P ρ S s a P1 e1
  obtain ⟨S2, q2, a2⟩ := h2 P1 ρ S1 (s.pen a1) b _ e2
  refine ⟨_, S2, ?_, (((s.pen a1).pen a2).sx.set).set, s.lo⟩
  have q : mCons m1 (mCons m2 mNil) ρ S = some ([A a, B b], S2) := by simp only [mCons, mNil, q1, q2, Option.bind_some]
  unfold mPar
  rw [q]
  rfl
def popT {α : Type} (xs : List α) (i : Int) : Option (α × List α) := (L2.ixN xs.length i).bind fun j => (xs[j]?).map fun a => (a, xs.eraseIdx j)
def popsP {α : Type} (te : List α → PM Int) : Nat → List α → PM (List α × List α)
  | 0, xs => lP (some ([], xs))
  | n + 1, xs => bP (te xs) fun k => bP (lP (popT xs k)) fun q => bP (popsP te n q.2) fun r => lP (some (q.1 :: r.1, r.2))
def popsG {α : Type} (te : List α → PM Int) (n : Nat) (xs : List α) : PM (List α × List α) := cond (Nat.ble n 16777216 && Nat.ble xs.length 16777216) (popsP te n xs) (fun _ => none)
end
abbrev eF_ : List Int → D := fun xs => .fl (xs.map D.int)
end TM
set_option Elab.async false
set_option linter.all false
set_option maxRecDepth 100000
set_option maxHeartbeats 4000000
namespace TM
open PySem PySem.Spec PyProof.Rows L2 MS
section
variable {α β γ δ σ : Type} {S0 S S' : Store} {p : Nat} {sl : List Sl} {m m1 m2 : MExp} {r : MStm} {A : α → D} {B : β → D} {C : γ → D} {t : Option α} {t1 : Option α} {t2 : Option β}
theorem xo_lst3 {n1 n2 n3 : MExp} {u1 u2 u3 : Option α} (h1 : XE S0 sl n1 u1 A) (h2 : XE S0 sl n2 u2 A) (h3 : XE S0 sl n3 u3 A) : XO S0 sl (mLst (mCons n1 (mCons n2 (mCons n3 mNil)))) (u1.bind fun x1 => u2.bind fun x2 => u3.bind fun x3 => some [x1, x2, x3]) A := fun ρ S s xs e => by
  obtain ⟨x1, e1, e⟩ := bnd e
  obtain ⟨x2, e2, e⟩ := bnd e
  obtain ⟨x3, e3, e⟩ := bnd e
  cases e
  obtain ⟨S1, q1, a1⟩ := h1 ρ S s x1 e1
  obtain ⟨S2, q2, a2⟩ := h2 ρ S1 (s.grow a1) x2 e2
  obtain ⟨S3, q3, a3⟩ := h3 ρ S2 (s.grow (a1.trans a2)) x3 e3
  refine xo_of (S1 := S3) ?_ ((a1.trans a2).trans a3)
  have q : (mCons n1 (mCons n2 (mCons n3 mNil))) ρ S = some ([A x1, A x2, A x3], S3) := by simp only [mCons, mNil, q1, q2, q3, Option.bind_some]
  unfold mLst
  rw [q]
  rfl
theorem xe_revF {f : α → β} (h : XE S0 sl m t A) (hE : ∀ a, ∃ ds, A a = .tup ds ∧ B (f a) = .tup ds.reverse) : XE S0 sl (mRevT m) (t.bind fun a => some (f a)) B := fun ρ S s b e => by
  obtain ⟨a, e1, e⟩ := bnd e
  cases e
  obtain ⟨S1, q, a1⟩ := h ρ S s a e1
  obtain ⟨ds, d1, d2⟩ := hE a
  refine ⟨S1, ?_, a1⟩
  unfold mRevT
  rw [q, d1, d2]
  rfl
theorem sn_asgT2 {i j : Nat} {k1 : α → Sl} {k2 : β → Sl} (h1 : XS S0 sl m1 t1 k1) (h2 : XS S0 sl m2 t2 k2) (n1 : ∀ a, k1 a ≠ .unk) (n2 : ∀ a, k2 a ≠ .unk) (hij : i ≠ j) :
    SN S0 sl (mAsg (mTup (mCons m1 (mCons m2 mNil))) (mgTup (mgCons (mName i) (mgCons (mName j) mgNil)) 2)) (t1.bind fun a => t2.bind fun b => some (a, b)) (fun p => (sl.set i (k1 p.1)).set j (k2 p.2)) := fun ρ S s c e => by
  obtain ⟨ρ', S', q, k⟩ := sn_par h1 h2 n1 n2 hij ρ S s c e
  refine ⟨ρ', S', ?_, k⟩
  obtain ⟨a, e1, e⟩ := bnd e
  obtain ⟨b, e2, e⟩ := bnd e
  cases e
  obtain ⟨d1, S1, q1, a1, o1⟩ := h1 ρ S s a e1
  obtain ⟨d2, S2, q2, a2, o2⟩ := h2 ρ S1 (s.grow a1) b e2
  have q3 : mCons m1 (mCons m2 mNil) ρ S = some ([d1, d2], S2) := by simp only [mCons, mNil, q1, q2, Option.bind_some]
  unfold mPar at q
  rw [q3] at q
  rw [← q]
  unfold mAsg mTup
  rw [q3]
  rfl
theorem op_neS : Op2 fNe eS eS eB (fun a b => some (!decide (a = b))) := fun a b c S e => by cases e; rfl
def repr_ (x : PyData) : Option Str := cond (okShow x) (some x.shown) none
theorem g_repr [DecidableEq α] {da : Nat} (f : Fa A da) (hd : da < 64) {a : α} : Gvs cRepr [A a] (repr_ (f.py a)) eS := fun c e S => by
  refine ⟨S, ?_, .refl⟩
  unfold repr_ at e
  cases k : okShow (f.py a) with
  | true =>
    rw [k] at e
    cases e
    show ((toPy S 64 (A a)).bind fun p => if okShow p then some (D.str p.shown, S) else none) = _
    rw [f.toPy_ 64 S a hd]
    show (if okShow (f.py a) then some (D.str (f.py a).shown, S) else none) = _
    rw [if_pos k]
  | false => rw [k] at e; cases e
def mulN_ (a b : Int) : Option Int := cond (i64 a || i64 b) (some (a * b)) none
theorem op_mulN : Op2 fMul eI eI eI mulN_ := fun a b c S e => by
  unfold mulN_ at e
  cases k : (i64 a || i64 b) with
  | true => rw [k] at e; cases e; show (if (i64 a || i64 b) = true then _ else _) = _; rw [if_pos k]
  | false => rw [k] at e; cases e
def sortS (xs : List Int) : Option (List Int) := cond (Nat.blt xs.length 4000 && Nat.blt (sortU xs).length 64) (some (sortU xs)) none
theorem g_lenF {xs : List Int} : Gvs cLen [eF_ xs] (some (xs.length : Int)) eI := fun c e S => by
  cases e
  refine ⟨S, ?_, .refl⟩
  show ((MS.items S (.fl (xs.map D.int))).bind fun ys => some (D.int (ys.length : Int), S)) = _
  show some (D.int ((xs.map D.int).length : Int), S) = _
  rw [List.length_map]
end
end TM
set_option Elab.async false
set_option linter.all false
set_option maxRecDepth 100000
set_option maxHeartbeats 4000000
namespace TM
open PySem PySem.Spec PyProof.Rows L2 MS
abbrev N_law_pen : List Str := ["script"]
def M_law_pen : MStm :=
  (mRet (mLst (mCons (mCall (cFz cList) (mCons (mSl (mVar 0) mNoPart (mPart (mC (.int 63)))) mNil)) (mCons (mC (.int 0)) (mCons (mC (.int 0)) mNil)))))
def F_law_pen : DCall := den 1 1 M_law_pen
abbrev N_law_fresh : List Str := ["pen", "cell", "prime", "state", "found", "lap", "seat", "given"]
def M_law_fresh : MStm :=
  (mSeq (mPar 6 7 (mCons (mBin fIx (mVar 0) (mC (.int 1))) (mCons (mBin fIx (mVar 0) (mC (.int 0))) mNil)))
    (mSeq (mAsg (mBin fAdd (mVar 6) (mC (.int 1))) (mgSub (mVar 0) (mC (.int 1))))
    (mSeq (mAsg (mIf (mB (mBin fNe (mVar 7) (mLstV mNil))) (mBin fIx (mVar 7) (mBin fMod (mCall cInt (mCons (mVar 6) mNil)) (mCall cLen (mCons (mVar 7) mNil)))) (mC (.int 0))) (mName 1))
    (mSeq (mIfS (mAnd (mB (mBin fLt (mVar 6) (mCall cLen (mCons (mVar 7) mNil)))) (mB (mBin fGe (mVar 1) (mBin fPow (mC (.int 10)) (mC (.int 18)))))) (mRet (mBin fSub (mVar 1) (mBin fPow (mC (.int 10)) (mC (.int 18))))) mNx)
    (mSeq (mAsg (mC (.int 2305843009213693951)) (mName 2))
    (mSeq (mAsg (mBin fMod (mCall cInt (mCons (mBin fAdd (mBin fAdd (mBin fMul (mVar 1) (mC (.int 48271))) (mBin fMul (mC (.int 60013)) (mVar 6))) (mC (.int 31))) mNil)) (mVar 2)) (mName 3))
    (mSeq (mAsg (mVar 3) (mName 4))
    (mSeq (mFor (mRange1 (mCons (mC (.int 6)) mNil)) (mName 5) (mSeq (mAsg (mBin fMod (mCall cInt (mCons (mBin fAdd (mBin fAdd (mBin fMul (mVar 3) (mVar 3)) (mBin fMul (mBin fMul (mC (.int 70139)) (mBin fAdd (mVar 5) (mC (.int 5)))) (mBin fAdd (mVar 6) (mC (.int 1))))) (mVar 1)) mNil)) (mVar 2)) (mName 3))
    (mAsg (mBin fAdd (mBin fMul (mVar 4) (mVar 2)) (mVar 3)) (mName 4))))
    (mRet (mVar 4))))))))))
def F_law_fresh : DCall := den 1 8 M_law_fresh
abbrev N_law_draw : List Str := ["pen", "bound", "digit"]
def M_law_draw : MStm :=
  (mSeq (mIfS (mB (mBin fLt (mBin fIx (mVar 0) (mC (.int 2))) (mVar 1))) (mAsg (mCall F_law_fresh (mCons (mVar 0) mNil)) (mgSub (mVar 0) (mC (.int 2)))) mNx)
    (mSeq (mAsg (mBin fMod (mCall cInt (mCons (mBin fIx (mVar 0) (mC (.int 2))) mNil)) (mVar 1)) (mName 2))
    (mSeq (mAsg (mBin fDivW (mCall cInt (mCons (mBin fIx (mVar 0) (mC (.int 2))) mNil)) (mVar 1)) (mgSub (mVar 0) (mC (.int 2))))
    (mRet (mVar 2)))))
def F_law_draw : DCall := den 2 3 M_law_draw
abbrev N_law_one_of : List Str := ["pen", "some"]
def M_law_one_of : MStm :=
  (mRet (mBin fIx (mVar 1) (mCall F_law_draw (mCons (mVar 0) (mCons (mCall cLen (mCons (mVar 1) mNil)) mNil)))))
def F_law_one_of : DCall := den 2 2 M_law_one_of
abbrev N_law_two_places : List Str := ["pen", "places", "one"]
def M_law_two_places : MStm :=
  (mSeq (mAsg (mCall F_law_draw (mCons (mVar 0) (mCons (mVar 1) mNil))) (mName 2))
    (mRet (mTup (mCons (mVar 2) (mCons (mBin fMod (mCall cInt (mCons (mBin fAdd (mBin fAdd (mVar 2) (mC (.int 1))) (mCall F_law_draw (mCons (mVar 0) (mCons (mBin fSub (mVar 1) (mC (.int 1))) mNil)))) mNil)) (mVar 1)) mNil)))))
def F_law_two_places : DCall := den 2 3 M_law_two_places
def penOf (xs : List Int) : Pn := ⟨cutT xs none (some 63), 0, 0⟩
theorem s_law_pen (xs : List Int) (S : Store) : ∃ n S', F_law_pen [eF_ xs] S = some (.lr n, S') ∧ All S S' ∧ S'[n]? = some (pobj (penOf xs)) := by
  have s0 := sx_start (S := S) (ds := [eF_ xs]) (n := 1)
  have h1 : XE S [.val (eF_ xs)] (mCall (cFz cList) (mCons (mSl (mVar 0) mNoPart (mPart (mC (.int 63)))) mNil)) _ (eL eI) := xe_call1 (xe_slF (B := eL eI) (f := fun x => cutT x none (some 63)) (xe_var eF_ rfl) xp_none (xp_some (xe_c eI rfl)) (fun a S => by
    show some (D.lst (MS.cutD (a.map D.int) none (some 63)), S) = _
    rw [cutT_map])) (fun _ => g_listL)
  have h2 := xo_lst3 (A := eD) (xe_map (B := eD) (f := fun x => eL eI x) h1 (fun _ => rfl)) (xe_c (d := .int 0) (a := .int 0) eD rfl) (xe_c (d := .int 0) (a := .int 0) eD rfl)
  obtain ⟨n, S1, q, a, hn, hg⟩ := h2 _ S s0 [.lst ((cutT xs none (some 63)).map D.int), .int 0, .int 0] rfl
  refine ⟨n, S1, ?_, a, hg⟩
  unfold F_law_pen den M_law_pen mRet
  rw [if_pos (show ([eF_ xs] : List D).length = 1 from rfl), q]
  rfl
theorem law_start {n i : Nat} {tail : MStm} {xs : List Int} {t : PM Bool} {P' : Pn} {a : Bool} (hb : ∀ S0 p, PR S0 p ((Sl.val (eF_ xs) :: List.replicate (n - 1) Sl.unk).set i (.val (.lr p))) tail t eB) (h : t (penOf xs) = some (a, P')) :
    ∃ S', den 1 n (mSeq (mAsg (mCall F_law_pen (mCons (mVar 0) mNil)) (mName i)) tail) [eF_ xs] [] = some (.bl a, S') := by
  have s0 : Sx [] (Sl.val (eF_ xs) :: List.replicate (n - 1) Sl.unk) (startD n [eF_ xs]) [] := sx_start (S := []) (ds := [eF_ xs]) (n := n)
  obtain ⟨p, S1, q, a1, hp⟩ := s_law_pen xs []
  have s1 : Pf S1 p ((Sl.val (eF_ xs) :: List.replicate (n - 1) Sl.unk).set i (.val (.lr p))) (penOf xs) ((startD n [eF_ xs]).set i (some (.lr p))) S1 := by
    refine ⟨?_, (List.getElem?_eq_some_iff.mp hp).1⟩
    rw [set_same hp]
    refine Sx.set ⟨.refl, s0.len, s0.val, fun j ds e => ?_, fun j k ds es h e1 e2 => ?_⟩
    · obtain ⟨h', _, q2, _⟩ := s0.own j ds e
      simp at q2
    · obtain ⟨h', _, q2, _⟩ := s0.own j ds e1
      simp at q2
  obtain ⟨ρ', S', q2, k⟩ := hb S1 p (penOf xs) _ S1 s1 a P' h
  refine ⟨S', ?_⟩
  have v : mVar 0 (startD n [eF_ xs]) [] = some (eF_ xs, []) := by unfold mVar; rw [s0.val 0 _ rfl]
  have q3 : mCons (mVar 0) mNil (startD n [eF_ xs]) [] = some ([eF_ xs], []) := by simp only [mCons, mNil, v, Option.bind_some]
  unfold den
  rw [if_pos (show ([eF_ xs] : List D).length = 1 from rfl)]
  have q4 : mSeq (mAsg (mCall F_law_pen (mCons (mVar 0) mNil)) (mName i)) tail (startD n [eF_ xs]) [] = some (.rt (.bl a), ρ', S') := by
    have q5 : mAsg (mCall F_law_pen (mCons (mVar 0) mNil)) (mName i) (startD n [eF_ xs]) [] = some (.nx, (startD n [eF_ xs]).set i (some (.lr p)), S1) := by
      unfold mAsg mCall
      rw [q3]
      show ((F_law_pen [eF_ xs] []).bind fun p => (mName i p.1 (startD n [eF_ xs]) p.2).bind fun q => some (Fl.nx, q.1, q.2)) = _
      rw [q]
      rfl
    unfold mSeq
    rw [q5]
    exact q2
  rw [q4]
def t_law_fresh  : PM Int :=
  (bP (bP (fun P => some (P.seat, P)) fun x2 => (bP (fun P => some (P.ns, P)) fun x3 => (lP (some (x2, x3))))) fun x1 => (bP (bP (lP (((some x1.1)).bind fun x4 => ((some (1 : Int))).bind fun x5 => some (x4 + x5))) fun x6 => (fun P => some ((), { P with seat := x6 }))) fun x7 => (lP (((((((some x1.2)).bind fun x9 => ((some ([] : (List Int)))).bind fun x10 => some (!decide (x9 = x10)))).bind fun x17 => cond x17 (((some x1.2)).bind fun x15 => ((((((some x1.1)).bind fun x11 => some x11)).bind fun x13 => ((((some x1.2)).bind fun x12 => some (x12.length : Int))).bind fun x14 => mod_ x13 x14)).bind fun x16 => atT x15 x16) (some (0 : Int)))).bind fun x8 => (((((((some x1.1)).bind fun x24 => ((((some x1.2)).bind fun x23 => some (x23.length : Int))).bind fun x25 => some (decide (x24 < x25)))).bind fun x26 => cond x26 (((some x8)).bind fun x21 => ((((some (10 : Int))).bind fun x19 => ((some (18 : Int))).bind fun x20 => pow_ x19 x20)).bind fun x22 => some (decide (x22 ≤ x21))) (some false))).bind fun x18 => cond x18 (((some x8)).bind fun x29 => ((((some (10 : Int))).bind fun x27 => ((some (18 : Int))).bind fun x28 => pow_ x27 x28)).bind fun x30 => some (x29 - x30)) (((some (2305843009213693951 : Int))).bind fun x31 => (((((((((((((some x8)).bind fun x33 => ((some (48271 : Int))).bind fun x34 => mulN_ x33 x34)).bind fun x37 => ((((some (60013 : Int))).bind fun x35 => ((some x1.1)).bind fun x36 => mulN_ x35 x36)).bind fun x38 => some (x37 + x38))).bind fun x39 => ((some (31 : Int))).bind fun x40 => some (x39 + x40))).bind fun x41 => some x41)).bind fun x42 => ((some x31)).bind fun x43 => mod_ x42 x43)).bind fun x32 => (((some x32)).bind fun x44 => (((((((some (6 : Int))).bind fun x46 => rng1 x46)).bind fun x48 => loopN (fun a47 (s45 : Int × Int) => (((((((((((((some s45.1)).bind fun x50 => ((some s45.1)).bind fun x51 => mulN_ x50 x51)).bind fun x60 => ((((((some (70139 : Int))).bind fun x54 => ((((some a47)).bind fun x52 => ((some (5 : Int))).bind fun x53 => some (x52 + x53))).bind fun x55 => mulN_ x54 x55)).bind fun x58 => ((((some x1.1)).bind fun x56 => ((some (1 : Int))).bind fun x57 => some (x56 + x57))).bind fun x59 => mulN_ x58 x59)).bind fun x61 => some (x60 + x61))).bind fun x62 => ((some x8)).bind fun x63 => some (x62 + x63))).bind fun x64 => some x64)).bind fun x65 => ((some x31)).bind fun x66 => mod_ x65 x66)).bind fun x49 => (((((((some s45.2)).bind fun x68 => ((some x31)).bind fun x69 => mulN_ x68 x69)).bind fun x70 => ((some x49)).bind fun x71 => some (x70 + x71))).bind fun x67 => some (x49, x67)))) x48 (x32, x44))).bind fun s72 => (some s72.2))))))))))
theorem s_law_fresh  : Gps F_law_fresh [] (t_law_fresh ) eI := gps_of rfl fun S0 p => by
  unfold M_law_fresh t_law_fresh
  exact (pr_seqN (pn_par (px_part (A := eI) (f := fun P => P.seat) rfl (fun _ => rfl)) (px_part (A := (eL eI)) (f := fun P => P.ns) rfl (fun _ => rfl))) (fun x1 => (pr_seqN (pn_put (A := eI) (f := fun a P => { P with seat := a }) rfl (px_of fun _ => (xe_bin (xe_var eI rfl) (xe_c eI rfl) op_add)) rfl (fun _ _ => rfl)) (fun x7 => (pr_of fun _ => (sr_seqN (sn_asg (xe_if (xt_B (xe_bin (xe_var (eL eI) rfl) (xe_lst0 (C := (eL eI)) ([] : (List Int))  rfl) (op_ne_ (faL faI) (by decide)))) (xe_bin (xe_var (eL eI) rfl) (xe_bin (xe_call1 (xe_var eI rfl) (fun _ => g_int)) (xe_call1 (xe_var (eL eI) rfl) (fun _ => g_lenL)) op_mod) op_ixL) (xe_c eI rfl))) (fun x8 => (sr_ifr (xt_and (xt_B (xe_bin (xe_var eI rfl) (xe_call1 (xe_var (eL eI) rfl) (fun _ => g_lenL)) op_lt)) (xt_B (xe_bin (xe_var eI rfl) (xe_bin (xe_c eI rfl) (xe_c eI rfl) op_pow) op_ge))) (sr_ret (xe_bin (xe_var eI rfl) (xe_bin (xe_c eI rfl) (xe_c eI rfl) op_pow) op_sub)) (sr_seqN (sn_asg (xe_c eI rfl)) (fun x31 => (sr_seqN (sn_asg (xe_bin (xe_call1 (xe_bin (xe_bin (xe_bin (xe_var eI rfl) (xe_c eI rfl) op_mulN) (xe_bin (xe_c eI rfl) (xe_var eI rfl) op_mulN) op_add) (xe_c eI rfl) op_add) (fun _ => g_int)) (xe_var eI rfl) op_mod)) (fun x32 => (sr_seqN (sn_asg (xe_var eI rfl)) (fun x44 => (sr_seqN (sn_for (slσ := fun s45 : Int × Int => [.val (.lr p), .val (eI x8), .val (eI x31), .val (eI s45.1), .val (eI s45.2), .unk, .val (eI x1.1), .val ((eL eI) x1.2)]) (xi_range1 (xe_c eI rfl)) (.keep (.keep (.keep (.keep (.keep (.keep (.keep (.keep .nil)))))))) (fun s45 a47 => xg_name) (fun s45 a47 => (sn_seq (sn_asg (xe_bin (xe_call1 (xe_bin (xe_bin (xe_bin (xe_var eI rfl) (xe_var eI rfl) op_mulN) (xe_bin (xe_bin (xe_c eI rfl) (xe_bin (xe_var eI rfl) (xe_c eI rfl) op_add) op_mulN) (xe_bin (xe_var eI rfl) (xe_c eI rfl) op_add) op_mulN) op_add) (xe_var eI rfl) op_add) (fun _ => g_int)) (xe_var eI rfl) op_mod)) (fun x49 => (sn_st (f := fun x67 => (x49, x67)) (sl' := fun s45 : Int × Int => [.val (.lr p), .val (eI x8), .val (eI x31), .val (eI s45.1), .val (eI s45.2), .unk, .val (eI x1.1), .val ((eL eI) x1.2)]) (sn_asg (xe_bin (xe_bin (xe_var eI rfl) (xe_var eI rfl) op_mulN) (xe_var eI rfl) op_add)) (fun x67 => (.keep (.keep (.keep (.keep (.keep (.drop (.keep (.keep .nil)))))))))))))) (fun s72 => (sr_ret (xe_var eI rfl))))))))))))))))))
def t_law_draw (v_bound : Int) : PM Int :=
  (bP (bP (bP (fun P => some (P.rest, P)) fun x5 => (lP (((some v_bound)).bind fun x6 => some (decide (x5 < x6))))) fun x7 => (cond x7 (bP (bP t_law_fresh fun x8 => (fun P => some ((), { P with rest := x8 }))) fun x9 => (lP (some ()))) (lP ((some ()).bind fun _ => some ())))) fun s4 => (bP (bP (bP (fun P => some (P.rest, P)) fun x11 => (lP (some x11))) fun x12 => (lP (((some v_bound)).bind fun x13 => mod_ x12 x13))) fun x10 => (bP (bP (bP (bP (fun P => some (P.rest, P)) fun x14 => (lP (some x14))) fun x15 => (lP (((some v_bound)).bind fun x16 => divW_ x15 x16))) fun x17 => (fun P => some ((), { P with rest := x17 }))) fun x18 => (lP (some x10)))))
theorem s_law_draw (v_bound : Int) : Gps F_law_draw [eI v_bound] (t_law_draw v_bound) eI := gps_of rfl fun S0 p => by
  unfold M_law_draw t_law_draw
  exact (pr_seqN (pn_if (pt_B (px_bin (px_part (A := eI) (f := fun P => P.rest) rfl (fun _ => rfl)) (px_of fun _ => (xe_var eI rfl)) op_lt)) (pn_st (f := fun x9 => ()) (sl' := fun s4 : Unit => [.val (.lr p), .val (eI v_bound), .unk]) (pn_put (A := eI) (f := fun a P => { P with rest := a }) rfl (px_pcall0 rfl (s_law_fresh)) rfl (fun _ _ => rfl)) (fun x9 => (.keep (.keep (.keep .nil))))) (pn_of fun _ => (sn_st (f := fun _ => ()) (sl' := fun s4 : Unit => [.val (.lr p), .val (eI v_bound), .unk]) sn_nx (fun _ => (.keep (.keep (.keep .nil))))))) (fun s4 => (pr_seqN (pn_asg (px_bin (px_call1 (px_part (A := eI) (f := fun P => P.rest) rfl (fun _ => rfl)) (fun _ => g_int)) (px_of fun _ => (xe_var eI rfl)) op_mod)) (fun x10 => (pr_seqN (pn_put (A := eI) (f := fun a P => { P with rest := a }) rfl (px_bin (px_call1 (px_part (A := eI) (f := fun P => P.rest) rfl (fun _ => rfl)) (fun _ => g_int)) (px_of fun _ => (xe_var eI rfl)) op_divW) rfl (fun _ _ => rfl)) (fun x18 => (pr_of fun _ => (sr_ret (xe_var eI rfl)))))))))
def t_law_one_of {α : Type} (xs : List α) : PM α := bP (lP (some xs)) fun a => bP (bP (lP ((some xs).bind fun x => some (x.length : Int))) fun n => t_law_draw n) fun i => lP (atT a i)
theorem s_law_one_ofL {α : Type} {A : α → D} (xs : List α) : Gps F_law_one_of [eL A xs] (t_law_one_of xs) A := gps_of rfl fun S0 p => by
  unfold M_law_one_of t_law_one_of
  exact pr_ret (px_bin (px_of fun _ => xe_var (eL A) rfl) (px_pcall1 rfl (px_of fun _ => xe_call1 (xe_var (eL A) rfl) (fun _ => g_lenL)) (fun _ => s_law_draw _)) op_ixL)
def t_law_two_places (v_places : Int) : PM (Int × Int) :=
  (bP (bP (lP (some v_places)) fun x2 => (t_law_draw x2)) fun x1 => (bP (lP (some x1)) fun x13 => (bP (bP (bP (bP (lP (((some x1)).bind fun x3 => ((some (1 : Int))).bind fun x4 => some (x3 + x4))) fun x8 => (bP (bP (lP (((some v_places)).bind fun x5 => ((some (1 : Int))).bind fun x6 => some (x5 - x6))) fun x7 => (t_law_draw x7)) fun x9 => (lP (some (x8 + x9))))) fun x10 => (lP (some x10))) fun x11 => (lP (((some v_places)).bind fun x12 => mod_ x11 x12))) fun x14 => (lP (some (x13, x14))))))
theorem s_law_two_places (v_places : Int) : Gps F_law_two_places [eI v_places] (t_law_two_places v_places) (eT2 eI eI) := gps_of rfl fun S0 p => by
  unfold M_law_two_places t_law_two_places
  exact (pr_seqN (pn_asg (px_pcall1 rfl (px_of fun _ => (xe_var eI rfl)) (fun _ => s_law_draw _))) (fun x1 => (pr_ret (px_tup2 (C := (eT2 eI eI)) (fun x13 x14 => (x13, x14)) (px_of fun _ => (xe_var eI rfl)) (px_bin (px_call1 (px_bin (px_of fun _ => (xe_bin (xe_var eI rfl) (xe_c eI rfl) op_add)) (px_pcall1 rfl (px_of fun _ => (xe_bin (xe_var eI rfl) (xe_c eI rfl) op_sub)) (fun _ => s_law_draw _)) op_add) (fun _ => g_int)) (px_of fun _ => (xe_var eI rfl)) op_mod) (fun _ _ => rfl)))))
end TM
set_option Elab.async false
set_option linter.all false
set_option maxRecDepth 100000
set_option maxHeartbeats 4000000
namespace TM
open PySem PySem.Spec PyProof.Rows L2 MS
def wo {α : Type} (t : Option α) (Q : α → Prop) : Prop := ∃ a, t = some a ∧ Q a
def wp {α : Type} (t : PM α) (P : Pn) (Q : α → Pn → Prop) : Prop := ∃ a P', t P = some (a, P') ∧ Q a P'
section
variable {α β σ : Type} {Q : β → Pn → Prop} {P : Pn}
theorem wo_some {a : α} {Q : α → Prop} (h : Q a) : wo (some a) Q := ⟨a, rfl, h⟩
theorem wo_b {t : Option α} {f : α → Option β} {Q : β → Prop} (h : wo t fun a => wo (f a) Q) : wo (t.bind f) Q := by
  obtain ⟨a, e, b, e2, q⟩ := h
  exact ⟨b, by rw [e]; exact e2, q⟩
theorem wo.mono {t : Option α} {Q R : α → Prop} (h : wo t Q) (hk : ∀ a, Q a → R a) : wo t R := let ⟨a, e, q⟩ := h; ⟨a, e, hk a q⟩
theorem wo_if {k : Bool} {a b : Option α} {Q : α → Prop} (h1 : k = true → wo a Q) (h2 : k = false → wo b Q) : wo (cond k a b) Q := by
  cases k with
  | true => exact h1 rfl
  | false => exact h2 rfl
theorem wp_l {t : Option β} (h : wo t fun a => Q a P) : wp (lP t) P Q := let ⟨a, e, q⟩ := h; ⟨a, P, by unfold lP; rw [e]; rfl, q⟩
theorem wp_b {t : PM α} {f : α → PM β} (h : wp t P fun a P1 => wp (f a) P1 Q) : wp (bP t f) P Q := by
  obtain ⟨a, P1, e, b, P2, e2, q⟩ := h
  exact ⟨b, P2, by unfold bP; rw [e]; exact e2, q⟩
theorem wp.mono {t : PM α} {Q R : α → Pn → Prop} (h : wp t P Q) (hk : ∀ a P', Q a P' → R a P') : wp t P R := let ⟨a, P', e, q⟩ := h; ⟨a, P', e, hk a P' q⟩
theorem wp_if {k : Bool} {a b : PM β} (h1 : k = true → wp a P Q) (h2 : k = false → wp b P Q) : wp (cond k a b) P Q := by
  cases k with
  | true => exact h1 rfl
  | false => exact h2 rfl
theorem wp_f {f : Pn → Option (β × Pn)} {b : β} {P' : Pn} (e : f P = some (b, P')) (h : Q b P') : wp f P Q := ⟨b, P', e, h⟩
theorem wp_loop {f : α → σ → PM σ} (Inv : Nat → σ → Pn → Prop) {Q : σ → Pn → Prop} : ∀ {xs : List α} {s0 : σ} {P : Pn} {i : Nat}, Inv i s0 P → (∀ (j : Nat) (x : α) (s : σ) (P : Pn), xs[j]? = some x → Inv (i + j) s P → wp (f x s) P fun s' P' => Inv (i + j + 1) s' P') → (∀ s P, Inv (i + xs.length) s P → Q s P) → wp (loopP f xs s0) P Q
  | [], s0, P, i, h0, _, hQ => ⟨s0, P, rfl, hQ s0 P h0⟩
  | x :: xs, s0, P, i, h0, hs, hQ => by
    refine wp_b ((hs 0 x s0 P rfl h0).mono fun s' P' h1 => ?_)
    refine wp_loop (i := i + 1) Inv h1 (fun j y s P hy hi => ?_) fun s P hl => hQ s P (by rw [List.length_cons]; rw [show i + (xs.length + 1) = i + 1 + xs.length by omega]; exact hl)
    have := hs (j + 1) y s P hy (by rw [show i + (j + 1) = i + 1 + j by omega]; exact hi)
    rw [show i + (j + 1) + 1 = i + 1 + j + 1 by omega] at this
    exact this
theorem wp_loopR {ρ : Type} {f : α → σ → PM (Out σ ρ)} (Inv : Nat → σ → Pn → Prop) (R : ρ → Pn → Prop) {Q : Out σ ρ → Pn → Prop} : ∀ {xs : List α} {s0 : σ} {P : Pn} {i : Nat}, Inv i s0 P → (∀ (j : Nat) (x : α) (s : σ) (P : Pn), xs[j]? = some x → Inv (i + j) s P → wp (f x s) P fun o P' => match o with | .nx s' => Inv (i + j + 1) s' P' | .rt r => R r P') → (∀ s P, Inv (i + xs.length) s P → Q (.nx s) P) → (∀ r P, R r P → Q (.rt r) P) → wp (loopRP f xs s0) P Q
  | [], s0, P, i, h0, _, hQ, _ => ⟨.nx s0, P, rfl, hQ s0 P h0⟩
  | x :: xs, s0, P, i, h0, hs, hQ, hR => by
    refine wp_b ((hs 0 x s0 P rfl h0).mono fun o P' h1 => ?_)
    cases o with
    | nx s' =>
      show wp (loopRP f xs s') P' Q
      refine wp_loopR (i := i + 1) Inv R h1 (fun j y s P hy hi => ?_) (fun s P hl => hQ s P (by rw [List.length_cons]; rw [show i + (xs.length + 1) = i + 1 + xs.length by omega]; exact hl)) hR
      have := hs (j + 1) y s P hy (by rw [show i + (j + 1) = i + 1 + j by omega]; exact hi)
      rw [show i + (j + 1) + 1 = i + 1 + j + 1 by omega] at this
      exact this
    | rt r => exact wp_l (wo_some (hR r P' h1))
theorem wp_compGo {f : α → PM β} (J : Pn → Prop) (R : β → Prop) {Q : List β → Pn → Prop} : ∀ {xs : List α} {P : Pn}, J P → (∀ (x : α) (P : Pn), x ∈ xs → J P → wp (f x) P fun y P' => R y ∧ J P') → (∀ ys P, ys.length = xs.length → (∀ y ∈ ys, R y) → J P → Q ys P) → wp (compGoP (fun _ => lP (some true)) f xs) P Q
  | [], P, h0, _, hQ => ⟨[], P, rfl, hQ [] P rfl (fun _ h => nomatch h) h0⟩
  | x :: xs, P, h0, hs, hQ => by
    refine wp_b (wp_l (wo_some ?_))
    show wp (bP (f x) fun y => bP (compGoP (fun _ => lP (some true)) f xs) fun ys => lP (some (y :: ys))) P Q
    refine wp_b ((hs x P (List.mem_cons_self ..) h0).mono fun y P1 h1 => ?_)
    refine wp_b (wp_compGo J R h1.2 (fun z P hz => hs z P (List.mem_cons_of_mem _ hz)) fun ys P2 hl hR hJ => ?_)
    refine wp_l (wo_some (hQ _ P2 (by rw [List.length_cons, List.length_cons, hl]) (fun z hz => ?_) hJ))
    rcases List.mem_cons.mp hz with e | h
    · rw [e]; exact h1.1
    · exact hR z h
theorem wp_comp {f : α → PM β} (J : Pn → Prop) (R : β → Prop) {Q : List β → Pn → Prop} {xs : List α} {P : Pn} (hz : xs.length ≤ 16777216) (h0 : J P) (hs : ∀ (x : α) (P : Pn), x ∈ xs → J P → wp (f x) P fun y P' => R y ∧ J P') (hQ : ∀ ys P, ys.length = xs.length → (∀ y ∈ ys, R y) → J P → Q ys P) : wp (compP (fun _ => lP (some true)) f xs) P Q := by
  unfold compP
  rw [Nat.ble_eq_true_of_le hz]
  exact wp_compGo J R h0 hs hQ
theorem wo_mod {i j : Int} {Q : Int → Prop} (h : 0 < j) (q : Q (i % j)) : wo (mod_ i j) Q := by
  unfold mod_
  rw [decide_eq_true h]
  exact wo_some q
theorem wo_div {i j : Int} {Q : Int → Prop} (h : 0 < j) (h2 : j < 2 ^ 64) (q : Q (i / j)) : wo (divW_ i j) Q := by
  unfold divW_
  have : j.natAbs.log2 < 9000 := by
    have h3 : j.natAbs < 2 ^ 64 := by omega
    have h4 : j.natAbs ≠ 0 := by omega
    have := (Nat.log2_lt h4).mpr h3
    omega
  rw [decide_eq_true h, decide_eq_true this]
  exact wo_some q
theorem i64_of {i : Int} (h1 : -(2 ^ 64) < i) (h2 : i < 2 ^ 64) : i64 i = true := by
  unfold i64
  rw [decide_eq_true h1, decide_eq_true h2]
  rfl
theorem wo_atI {xs : List α} {i : Int} {Q : α → Prop} (h0 : 0 ≤ i) (h1 : i < xs.length) (q : ∀ x, x ∈ xs → xs[i.toNat]? = some x → Q x) : wo (atT xs i) Q := by
  have hi : i.toNat < xs.length := by omega
  refine ⟨xs[i.toNat], ?_, q _ (List.getElem_mem hi) (List.getElem?_eq_getElem hi)⟩
  unfold atT
  have := L2.atI_nat (j := i.toNat) (List.getElem?_eq_getElem hi)
  rwa [Int.toNat_of_nonneg h0] at this
theorem wo_rng1 {j : Int} {Q : List Int → Prop} (h : -1000 ≤ j) (h2 : j < 1000000000) (q : Q (rangeI 0 j.toNat)) : wo (rng1 j) Q := by
  unfold rng1
  have : r62 j = true := by
    unfold r62
    rw [decide_eq_true (show -(2 ^ 62) ≤ j by omega), decide_eq_true (show j < 2 ^ 62 by omega)]
    rfl
  rw [this]
  exact wo_some q
theorem wo_rng2 {i j : Int} {Q : List Int → Prop} (h : -1000 ≤ j) (h2 : j < 1000000000) (h3 : -1000 ≤ i) (h4 : i < 1000000000) (q : Q (rangeI i (j - i).toNat)) : wo (rng2 i j) Q := by
  unfold rng2
  have e : ∀ {j : Int}, -1000 ≤ j → j < 1000000000 → r62 j = true := fun {j} h h2 => by
    unfold r62
    rw [decide_eq_true (show -(2 ^ 62) ≤ j by omega), decide_eq_true (show j < 2 ^ 62 by omega)]
    rfl
  rw [e h h2, e h3 h4]
  exact wo_some q
theorem wo_push {xs : List α} {a : α} {Q : List α → Prop} (h : xs.length < 16777216) (q : Q (xs ++ [a])) : wo (pushM xs a) Q := by
  unfold pushM
  rw [show Nat.blt xs.length 16777216 = true by rw [Nat.blt_eq]; exact h]
  exact wo_some q
theorem rangeI_mem {lo : Int} {n : Nat} {x : Int} (h : x ∈ rangeI lo n) : lo ≤ x ∧ x < lo + n := by
  obtain ⟨i, hi, rfl⟩ := List.mem_map.mp h
  have := List.mem_range.mp hi
  omega
theorem rangeI_len {lo : Int} {n : Nat} : (rangeI lo n).length = n := by unfold rangeI; rw [List.length_map, List.length_range]
theorem rangeI_get {lo : Int} {n j : Nat} {x : Int} (h : (rangeI lo n)[j]? = some x) : x = lo + j ∧ j < n := by
  unfold rangeI at h
  rw [List.getElem?_map] at h
  obtain ⟨k, e1, e2⟩ := Option.map_eq_some_iff.mp h
  obtain ⟨h1, h2⟩ := List.getElem?_eq_some_iff.mp e1
  rw [List.getElem_range] at h2
  rw [List.length_range] at h1
  exact ⟨by rw [← e2, ← h2], h1⟩
end
def Good (P : Pn) : Prop := 0 ≤ P.seat ∧ 0 ≤ P.rest
local macro_rules | `(tactic| walk_at "st") => `(tactic| first
  | with_reducible refine wp_b ?_ | with_reducible refine wp_l ?_ | with_reducible refine wo_b ?_ | with_reducible refine wo_some ?_
  | (with_reducible refine wo_mod ?hc ?_; (case hc => first | assumption | decide | omega))
  | (with_reducible refine wo_if (fun hk => ?_) (fun hk => ?_)) | (with_reducible refine wp_if (fun hk => ?_) (fun hk => ?_)))
theorem wo_mulN {i j : Int} {Q : Int → Prop} (h : (i64 i || i64 j) = true) (q : Q (i * j)) : wo (mulN_ i j) Q := by
  unfold mulN_
  rw [h]
  exact wo_some q
theorem wo_pow10 {Q : Int → Prop} (q : Q (10 ^ 18)) : wo (pow_ 10 18) Q := ⟨10 ^ 18, by decide +kernel, q⟩
theorem i64_l {i j : Int} (h : i64 i = true) : (i64 i || i64 j) = true := by rw [h]; rfl
theorem i64_r {i j : Int} (h : i64 j = true) : (i64 i || i64 j) = true := by rw [h]; exact Bool.or_true _
theorem mod_lt_ {i j : Int} (h : 0 < j) : 0 ≤ i % j ∧ i % j < j := ⟨Int.emod_nonneg _ (by omega), Int.emod_lt_of_pos _ h⟩
theorem wo_loop {α σ : Type} {f : α → σ → Option σ} (Inv : Nat → σ → Prop) {Q : σ → Prop} : ∀ {xs : List α} {s0 : σ} {i : Nat}, Inv i s0 → (∀ (j : Nat) (x : α) (s : σ), xs[j]? = some x → Inv (i + j) s → wo (f x s) fun s' => Inv (i + j + 1) s') → (∀ s, Inv (i + xs.length) s → Q s) → wo (loopN f xs s0) Q
  | [], s0, i, h0, _, hQ => ⟨s0, rfl, hQ s0 h0⟩
  | x :: xs, s0, i, h0, hs, hQ => by
    refine wo_b ((hs 0 x s0 rfl h0).mono fun s' h1 => ?_)
    refine wo_loop (i := i + 1) Inv h1 (fun j y s hy hi => ?_) fun s hl => hQ s (by rw [List.length_cons]; rw [show i + (xs.length + 1) = i + 1 + xs.length by omega]; exact hl)
    have := hs (j + 1) y s hy (by rw [show i + (j + 1) = i + 1 + j by omega]; exact hi)
    rw [show i + (j + 1) + 1 = i + 1 + j + 1 by omega] at this
    exact this
theorem fresh_ok {P : Pn} (h : Good P) : wp t_law_fresh P fun v P' => 0 ≤ v ∧ Good P' := by
  obtain ⟨ns, seat, rest⟩ := P
  obtain ⟨h0, h1⟩ := h
  have h0 : 0 ≤ seat := h0
  have h1 : 0 ≤ rest := h1
  unfold t_law_fresh
  refine wp_b (wp_b (wp_f rfl ?_))
  refine wp_b (wp_f rfl ?_)
  refine wp_l (wo_some ?_)
  refine wp_b (wp_b (wp_l (wo_b (wo_some (wo_b (wo_some (wo_some ?_)))))))
  refine wp_f rfl ?_
  have g : Good ⟨ns, seat + 1, rest⟩ := ⟨show 0 ≤ seat + 1 by omega, h1⟩
  refine wp_l ?_
  have tail : ∀ x8 : Int, wo (((((((some (seat, ns).1)).bind fun x24 => ((((some (seat, ns).2)).bind fun x23 => some (x23.length : Int))).bind fun x25 => some (decide (x24 < x25)))).bind fun x26 => cond x26 (((some x8)).bind fun x21 => ((((some (10 : Int))).bind fun x19 => ((some (18 : Int))).bind fun x20 => pow_ x19 x20)).bind fun x22 => some (decide (x22 ≤ x21))) (some false))).bind fun x18 => cond x18 (((some x8)).bind fun x29 => ((((some (10 : Int))).bind fun x27 => ((some (18 : Int))).bind fun x28 => pow_ x27 x28)).bind fun x30 => some (x29 - x30)) (((some (2305843009213693951 : Int))).bind fun x31 => (((((((((((((some x8)).bind fun x33 => ((some (48271 : Int))).bind fun x34 => mulN_ x33 x34)).bind fun x37 => ((((some (60013 : Int))).bind fun x35 => ((some (seat, ns).1)).bind fun x36 => mulN_ x35 x36)).bind fun x38 => some (x37 + x38))).bind fun x39 => ((some (31 : Int))).bind fun x40 => some (x39 + x40))).bind fun x41 => some x41)).bind fun x42 => ((some x31)).bind fun x43 => mod_ x42 x43)).bind fun x32 => (((some x32)).bind fun x44 => (((((((some (6 : Int))).bind fun x46 => rng1 x46)).bind fun x48 => loopN (fun a47 (s45 : Int × Int) => (((((((((((((some s45.1)).bind fun x50 => ((some s45.1)).bind fun x51 => mulN_ x50 x51)).bind fun x60 => ((((((some (70139 : Int))).bind fun x54 => ((((some a47)).bind fun x52 => ((some (5 : Int))).bind fun x53 => some (x52 + x53))).bind fun x55 => mulN_ x54 x55)).bind fun x58 => ((((some (seat, ns).1)).bind fun x56 => ((some (1 : Int))).bind fun x57 => some (x56 + x57))).bind fun x59 => mulN_ x58 x59)).bind fun x61 => some (x60 + x61))).bind fun x62 => ((some x8)).bind fun x63 => some (x62 + x63))).bind fun x64 => some x64)).bind fun x65 => ((some x31)).bind fun x66 => mod_ x65 x66)).bind fun x49 => (((((((some s45.2)).bind fun x68 => ((some x31)).bind fun x69 => mulN_ x68 x69)).bind fun x70 => ((some x49)).bind fun x71 => some (x70 + x71))).bind fun x67 => some (x49, x67)))) x48 (x32, x44))).bind fun s72 => (some s72.2)))))) fun v => 0 ≤ v := by
    intro c
    have rest_ : wo (((some (2305843009213693951 : Int))).bind fun x31 => (((((((((((((some c)).bind fun x33 => ((some (48271 : Int))).bind fun x34 => mulN_ x33 x34)).bind fun x37 => ((((some (60013 : Int))).bind fun x35 => ((some (seat, ns).1)).bind fun x36 => mulN_ x35 x36)).bind fun x38 => some (x37 + x38))).bind fun x39 => ((some (31 : Int))).bind fun x40 => some (x39 + x40))).bind fun x41 => some x41)).bind fun x42 => ((some x31)).bind fun x43 => mod_ x42 x43)).bind fun x32 => (((some x32)).bind fun x44 => (((((((some (6 : Int))).bind fun x46 => rng1 x46)).bind fun x48 => loopN (fun a47 (s45 : Int × Int) => (((((((((((((some s45.1)).bind fun x50 => ((some s45.1)).bind fun x51 => mulN_ x50 x51)).bind fun x60 => ((((((some (70139 : Int))).bind fun x54 => ((((some a47)).bind fun x52 => ((some (5 : Int))).bind fun x53 => some (x52 + x53))).bind fun x55 => mulN_ x54 x55)).bind fun x58 => ((((some (seat, ns).1)).bind fun x56 => ((some (1 : Int))).bind fun x57 => some (x56 + x57))).bind fun x59 => mulN_ x58 x59)).bind fun x61 => some (x60 + x61))).bind fun x62 => ((some c)).bind fun x63 => some (x62 + x63))).bind fun x64 => some x64)).bind fun x65 => ((some x31)).bind fun x66 => mod_ x65 x66)).bind fun x49 => (((((((some s45.2)).bind fun x68 => ((some x31)).bind fun x69 => mulN_ x68 x69)).bind fun x70 => ((some x49)).bind fun x71 => some (x70 + x71))).bind fun x67 => some (x49, x67)))) x48 (x32, x44))).bind fun s72 => (some s72.2))))) fun v => 0 ≤ v := by
      repeat walk_at "st"
      refine wo_mulN (i64_r (by decide)) ?_
      repeat walk_at "st"
      refine wo_mulN (i64_l (by decide)) ?_
      repeat walk_at "st"
      have hm := mod_lt_ (i := c * 48271 + 60013 * seat + 31) (j := 2305843009213693951) (by decide)
      refine wo_rng1 (by decide) (by decide) ?_
      refine wo_loop (i := 0) (fun _ s => 0 ≤ s.1 ∧ s.1 < 2305843009213693951 ∧ 0 ≤ s.2) ⟨hm.1, hm.2, hm.1⟩ (fun j x s hx hi => ?_) (fun s hi => ?_)
      · obtain ⟨a1, a2, a3⟩ := hi
        obtain ⟨rfl, hj⟩ := rangeI_get hx
        have hj6 : j < 6 := hj
        repeat walk_at "st"
        refine wo_mulN (i64_l (i64_of (by omega) (by omega))) ?_
        repeat walk_at "st"
        refine wo_mulN (i64_l (by decide)) ?_
        repeat walk_at "st"
        refine wo_mulN (i64_l (i64_of (by omega) (by omega))) ?_
        repeat walk_at "st"
        refine wo_mulN (i64_r (by decide)) ?_
        repeat walk_at "st"
        have hm := mod_lt_ (i := s.1 * s.1 + 70139 * (0 + (j : Int) + 5) * (seat + 1) + c) (j := 2305843009213693951) (by decide)
        refine ⟨hm.1, hm.2, ?_⟩
        have := Int.mul_nonneg a3 (by decide : (0 : Int) ≤ 2305843009213693951)
        show 0 ≤ s.2 * 2305843009213693951 + (s.1 * s.1 + 70139 * (0 + (j : Int) + 5) * (seat + 1) + c) % 2305843009213693951
        omega
      · exact wo_some hi.2.2
    refine wo_b (wo_b ?_)
    refine wo_b (wo_some (wo_b (wo_b (wo_some (wo_some ?_)))))
    refine wo_some ?_
    refine wo_if (fun hk => ?_) (fun hk => ?_)
    · refine wo_b (wo_some (wo_b (wo_b (wo_some (wo_b (wo_some (wo_pow10 ?_)))))))
      refine wo_some ?_
      refine wo_if (fun hk => ?_) (fun hk => rest_)
      refine wo_b (wo_some (wo_b (wo_b (wo_some (wo_b (wo_some (wo_pow10 ?_)))))))
      refine wo_some ?_
      have := of_decide_eq_true hk
      omega
    · exact wo_some rest_
  refine wo_b (wo_b (wo_b (wo_some ?_)))
  refine wo_b (wo_some (wo_some ?_))
  refine wo_if (fun hk => ?_) (fun hk => ?_)
  · have hne : ns ≠ [] := by
      intro z
      subst z
      exact absurd (show (!decide (([] : List Int) = [])) = true from hk) (by decide)
    have hl : 0 < (ns.length : Int) := by
      cases ns with
      | nil => exact absurd rfl hne
      | cons a b => show 0 < ((b.length + 1 : Nat) : Int); omega
    refine wo_b (wo_some (wo_b (wo_b (wo_b (wo_some (wo_some ?_))))))
    refine wo_b (wo_b (wo_some (wo_some ?_)))
    have hm := mod_lt_ (i := seat) hl
    refine wo_mod hl (wo_atI hm.1 hm.2 fun x _ _ => ?_)
    exact (tail x).mono fun v hv => ⟨hv, g⟩
  · exact wo_some ((tail 0).mono fun v hv => ⟨hv, g⟩)
theorem draw_ok {P : Pn} {b : Int} (h : Good P) (hb : 1 ≤ b) (hb2 : b < 2 ^ 64) : wp (t_law_draw b) P fun d P' => 0 ≤ d ∧ d < b ∧ Good P' := by
  unfold t_law_draw
  have tail : ∀ P1 : Pn, Good P1 → wp (bP (bP (bP (fun P => some (P.rest, P)) fun x11 => (lP (some x11))) fun x12 => (lP (((some b)).bind fun x13 => mod_ x12 x13))) fun x10 => (bP (bP (bP (bP (fun P => some (P.rest, P)) fun x14 => (lP (some x14))) fun x15 => (lP (((some b)).bind fun x16 => divW_ x15 x16))) fun x17 => (fun P => some ((), { P with rest := x17 }))) fun x18 => (lP (some x10)))) P1 fun d P' => 0 ≤ d ∧ d < b ∧ Good P' := by
    intro P1 g
    refine wp_b (wp_b (wp_b (wp_f rfl (wp_l (wo_some ?_)))))
    refine wp_l (wo_b (wo_some (wo_mod (by omega) ?_)))
    have hm := mod_lt_ (i := P1.rest) (j := b) (by omega)
    refine wp_b (wp_b (wp_b (wp_b (wp_f rfl (wp_l (wo_some ?_))))))
    refine wp_l (wo_b (wo_some (wo_div (by omega) hb2 ?_)))
    refine wp_f rfl (wp_l (wo_some ⟨hm.1, hm.2, g.1, ?_⟩))
    exact Int.ediv_nonneg g.2 (by omega)
  refine wp_b (wp_b (wp_b (wp_f rfl (wp_l (wo_b (wo_some (wo_some ?_)))))))
  refine wp_if (fun hk => ?_) (fun hk => ?_)
  · refine wp_b (wp_b ((fresh_ok h).mono fun v P1 hv => wp_f rfl (wp_l (wo_some ?_))))
    exact tail _ ⟨hv.2.1, hv.1⟩
  · exact wp_l (wo_b (wo_some (wo_some (tail P h))))
theorem one_of_ok {α : Type} {P : Pn} {xs : List α} (h : Good P) (hx : xs ≠ []) (hl : xs.length < 2 ^ 60) : wp (t_law_one_of xs) P fun x P' => x ∈ xs ∧ Good P' := by
  unfold t_law_one_of
  refine wp_b (wp_l (wo_some (wp_b (wp_b (wp_l (wo_b (wo_some (wo_some ?_))))))))
  have h1 : 1 ≤ (xs.length : Int) := by
    cases xs with
    | nil => exact absurd rfl hx
    | cons a b => show 1 ≤ ((b.length + 1 : Nat) : Int); omega
  refine (draw_ok h h1 (by omega)).mono fun d P1 hd => wp_l (wo_atI hd.1 hd.2.1 fun x hx _ => ⟨hx, hd.2.2⟩)
theorem two_places_ok {P : Pn} {n : Int} (h : Good P) (hn : 2 ≤ n) (hn2 : n < 2 ^ 60) : wp (t_law_two_places n) P fun w P' => (0 ≤ w.1 ∧ w.1 < n ∧ 0 ≤ w.2 ∧ w.2 < n ∧ w.1 ≠ w.2) ∧ Good P' := by
  unfold t_law_two_places
  refine wp_b (wp_b (wp_l (wo_some ((draw_ok h (by omega) (by omega)).mono fun d P1 hd => ?_))))
  refine wp_b (wp_l (wo_some (wp_b (wp_b (wp_b (wp_b ?_))))))
  refine wp_l (wo_b (wo_some (wo_b (wo_some (wo_some ?_)))))
  refine wp_b (wp_b (wp_l (wo_b (wo_some (wo_b (wo_some (wo_some ?_)))))))
  refine (draw_ok hd.2.2 (by omega) (by omega)).mono fun e P2 he => ?_
  refine wp_l (wo_some (wp_l (wo_some (wp_l (wo_b (wo_some (wo_mod (by omega) (wp_l (wo_some ⟨⟨hd.1, hd.2.1, ?_⟩, he.2.2⟩)))))))))
  have hm := mod_lt_ (i := d + 1 + e) (j := n) (by omega)
  refine ⟨hm.1, hm.2, fun z => ?_⟩
  have z : d = (d + 1 + e) % n := z
  have hd1 := hd.1
  have hd2 := hd.2.1
  have he1 := he.1
  have he2 := he.2.1
  by_cases hc : d + 1 + e < n
  · rw [Int.emod_eq_of_lt (by omega) hc] at z
    omega
  · have : (d + 1 + e) % n = d + 1 + e - n := by
      rw [← Int.sub_emod_right (d + 1 + e) n] 
      exact Int.emod_eq_of_lt (by omega) (by omega)
    omega
theorem good_pen (xs : List Int) : Good (penOf xs) := ⟨Int.le_refl _, Int.le_refl _⟩
end TM
set_option Elab.async false
set_option linter.all false
set_option maxRecDepth 100000
set_option maxHeartbeats 4000000
namespace TM
open PySem PySem.Spec PyProof.Rows L2 MS
abbrev N_law_mine : List Str := ["pen", "most", "many", "places", "x", "lap", "ways", "pair", "inlet", "outlet"]
def M_law_mine : MStm :=
  (mSeq (mAsg (mCall F_law_one_of (mCons (mVar 0) (mCons (mLstV (mCons (mC (.int 2)) (mCons (mC (.int 3)) (mCons (mVar 1) (mCons (mVar 1) (mCons (mBin fAdd (mC (.int 2)) (mCall F_law_draw (mCons (mVar 0) (mCons (mBin fSub (mVar 1) (mC (.int 1))) mNil)))) mNil)))))) mNil))) (mName 3))
    (mSeq (mPar 3 6 (mCons (mCall cMin (mCons (mVar 3) (mCons (mBin fAdd (mVar 2) (mC (.int 1))) mNil))) (mCons (mLst mNil) mNil)))
    (mSeq (mFor (mRange2 (mCons (mC (.int 1)) (mCons (mVar 3) mNil))) (mName 4) (mSeq (mAsg (mTup (mCons (mVar 4) (mCons (mCall F_law_draw (mCons (mVar 0) (mCons (mVar 4) mNil))) mNil))) (mName 7))
    (mDrop (mApp (mVar 6) (mCons (mIf (mB (mBin fEq (mCall F_law_draw (mCons (mVar 0) (mCons (mC (.int 2)) mNil))) (mC (.int 0)))) (mVar 7) (mRevT (mVar 7))) mNil)))))
    (mSeq (mFor (mRange1 (mCons (mCall F_law_draw (mCons (mVar 0) (mCons (mBin fAdd (mBin fSub (mVar 2) (mCall cLen (mCons (mVar 6) mNil))) (mC (.int 1))) mNil))) mNil)) (mName 5) (mDrop (mApp (mVar 6) (mCons (mCall F_law_two_places (mCons (mVar 0) (mCons (mVar 3) mNil))) mNil))))
    (mSeq (mAsg (mCall F_law_two_places (mCons (mVar 0) (mCons (mVar 3) mNil))) (mgTup (mgCons (mName 8) (mgCons (mName 9) mgNil)) 2))
    (mRet (mTup (mCons (mVar 3) (mCons (mCall cTuple (mCons (mVar 6) mNil)) (mCons (mVar 8) (mCons (mVar 9) mNil)))))))))))
def F_law_mine : DCall := den 3 10 M_law_mine
def M_law_bridge : MStm :=
  (mSeq (mAsg (mTup (mCons (mLst (mCons (mC (.int 0)) (mCons (mC (.int 1)) (mCons (mC (.int 2)) (mCons (mC (.int 3)) mNil))))) (mCons (mLst mNil) mNil))) (mgTup (mgCons (mName 3) (mgCons (mName 4) mgNil)) 2))
    (mSeq (mAsg (mFz (mLc (mRange1 (mCons (mC (.int 4)) mNil)) (mName 2) mYes (mPop (mVar 3) (mCons (mCall F_law_draw (mCons (mVar 0) (mCons (mCall cLen (mCons (mVar 3) mNil)) mNil))) mNil)) [2])) (mName 1))
    (mSeq (mFor (mItems (mTup (mCons (mTup (mCons (mC (.int 0)) (mCons (mC (.int 1)) mNil))) (mCons (mTup (mCons (mC (.int 0)) (mCons (mC (.int 2)) mNil))) (mCons (mTup (mCons (mC (.int 1)) (mCons (mC (.int 2)) mNil))) (mCons (mTup (mCons (mC (.int 1)) (mCons (mC (.int 3)) mNil))) (mCons (mTup (mCons (mC (.int 2)) (mCons (mC (.int 3)) mNil))) mNil))))))) (mgTup (mgCons (mName 5) (mgCons (mName 6) mgNil)) 2) (mSeq (mAsg (mTup (mCons (mBin fIx (mVar 1) (mVar 5)) (mCons (mBin fIx (mVar 1) (mVar 6)) mNil))) (mName 7))
    (mDrop (mApp (mVar 4) (mCons (mIf (mB (mBin fEq (mCall F_law_draw (mCons (mVar 0) (mCons (mC (.int 2)) mNil))) (mC (.int 0)))) (mVar 7) (mRevT (mVar 7))) mNil)))))
    (mSeq (mFor (mRange1 (mCons (mCall F_law_draw (mCons (mVar 0) (mCons (mC (.int 3)) mNil))) mNil)) (mName 2) (mDrop (mApp (mVar 4) (mCons (mCall F_law_two_places (mCons (mVar 0) (mCons (mC (.int 4)) mNil))) mNil))))
    (mRet (mTup (mCons (mC (.int 4)) (mCons (mCall cTuple (mCons (mVar 4) mNil)) (mCons (mBin fIx (mVar 1) (mC (.int 0))) (mCons (mBin fIx (mVar 1) (mC (.int 3))) mNil))))))))))
def F_law_bridge : DCall := den 1 8 M_law_bridge
abbrev N_law_loose : List Str := ["pen", "mine", "ways", "lap"]
def M_law_loose : MStm :=
  (mSeq (mIfS (mB (mBin fGt (mCall F_law_draw (mCons (mVar 0) (mCons (mC (.int 3)) mNil))) (mC (.int 0)))) (mRet (mVar 1)) mNx)
    (mSeq (mAsg (mFz (mLc (mRange1 (mCons (mBin fAdd (mC (.int 1)) (mCall F_law_draw (mCons (mVar 0) (mCons (mC (.int 6)) mNil)))) mNil)) (mName 3) mYes (mCall F_law_two_places (mCons (mVar 0) (mCons (mBin fIx (mVar 1) (mC (.int 0))) mNil))) [3])) (mName 2))
    (mRet (mTup (mCons (mBin fIx (mVar 1) (mC (.int 0))) (mCons (mCall cTuple (mCons (mVar 2) mNil)) (mCons (mBin fIx (mVar 1) (mC (.int 2))) (mCons (mBin fIx (mVar 1) (mC (.int 3))) mNil))))))))
def F_law_loose : DCall := den 2 4 M_law_loose
def t_law_mine (v_most : Int) (v_many : Int) : PM (Int × (List (Int × Int)) × Int × Int) :=
  (bP (bP (bP (lP (some (2 : Int))) fun x7 => (bP (lP (some (3 : Int))) fun x8 => (bP (lP (some v_most)) fun x9 => (bP (lP (some v_most)) fun x10 => (bP (bP (lP (some (2 : Int))) fun x5 => (bP (bP (lP (((some v_most)).bind fun x2 => ((some (1 : Int))).bind fun x3 => some (x2 - x3))) fun x4 => (t_law_draw x4)) fun x6 => (lP (some (x5 + x6))))) fun x11 => (lP (some [x7, x8, x9, x10, x11]))))))) fun x12 => (t_law_one_of x12)) fun x1 => (bP (lP (((((some x1)).bind fun x16 => ((((some v_many)).bind fun x14 => ((some (1 : Int))).bind fun x15 => some (x14 + x15))).bind fun x17 => some (if x17 < x16 then x17 else x16))).bind fun x18 => ((some ([] : List (Int × Int)))).bind fun x19 => some (x18, x19))) fun x13 => (bP (bP (lP (((some (1 : Int))).bind fun x21 => ((some x13.1)).bind fun x22 => rng2 x21 x22)) fun x24 => (loopP (fun a23 (s20 : (List (Int × Int))) => (bP (bP (lP (some a23)) fun x27 => (bP (bP (lP (some a23)) fun x26 => (t_law_draw x26)) fun x28 => (lP (some (x27, x28))))) fun x25 => (bP (bP (bP (bP (bP (lP (some (2 : Int))) fun x31 => (t_law_draw x31)) fun x32 => (bP (lP (some (0 : Int))) fun x33 => (lP (some (decide (x32 = x33)))))) fun x35 => (cond x35 (lP (some x25)) (lP (((some x25)).bind fun x34 => some (x34.2, x34.1))))) fun x30 => (lP (pushM s20 x30))) fun x29 => (lP (some x29))))) x24 x13.2)) fun s36 => (bP (bP (bP (bP (lP (((((some v_many)).bind fun x38 => ((some ((s36).length : Int))).bind fun x39 => some (x38 - x39))).bind fun x40 => ((some (1 : Int))).bind fun x41 => some (x40 + x41))) fun x42 => (t_law_draw x42)) fun x43 => (lP (rng1 x43))) fun x45 => (loopP (fun a44 (s37 : (List (Int × Int))) => (bP (bP (bP (lP (some x13.1)) fun x48 => (t_law_two_places x48)) fun x47 => (lP (pushM s37 x47))) fun x46 => (lP (some x46)))) x45 s36)) fun s49 => (bP (bP (lP (some x13.1)) fun x51 => (t_law_two_places x51)) fun x50 => (lP (((some x13.1)).bind fun x52 => ((some s49)).bind fun x53 => ((some x50.1)).bind fun x54 => ((some x50.2)).bind fun x55 => some (x52, x53, x54, x55))))))))
theorem s_law_mine (v_most : Int) (v_many : Int) : Gps F_law_mine [eI v_most, eI v_many] (t_law_mine v_most v_many) (eT4 eI (eV (eT2 eI eI)) eI eI) := gps_of rfl fun S0 p => by
  unfold M_law_mine t_law_mine
  exact (pr_seqN (pn_asg (px_pcall1 rfl (px_lst5 (C := (eL eI)) (fun x7 x8 x9 x10 x11 => [x7, x8, x9, x10, x11]) (px_of fun _ => (xe_c eI rfl)) (px_of fun _ => (xe_c eI rfl)) (px_of fun _ => (xe_var eI rfl)) (px_of fun _ => (xe_var eI rfl)) (px_bin (px_of fun _ => (xe_c eI rfl)) (px_pcall1 rfl (px_of fun _ => (xe_bin (xe_var eI rfl) (xe_c eI rfl) op_sub)) (fun _ => s_law_draw _)) op_add) (fun _ _ _ _ _ => rfl)) (fun _ => s_law_one_ofL _))) (fun x1 => (pr_seqN (pn_of fun _ => (sn_par (xs_val (xe_call2 (xe_var eI rfl) (xe_bin (xe_var eI rfl) (xe_c eI rfl) op_add) (fun _ _ => g_min))) (xs_own (A := (eT2 eI eI)) xo_nil) (fun _ z => nomatch z) (fun _ z => nomatch z) (by decide))) (fun x13 => (pr_seqN (pn_for (slσ := fun s20 : (List (Int × Int)) => [.val (.lr p), .val (eI v_most), .val (eI v_many), .val (eI x13.1), .unk, .unk, .own ((s20).map (eT2 eI eI)), .unk, .unk, .unk]) (pi_of fun _ => (xi_range2 (xe_c eI rfl) (xe_var eI rfl))) (.keep (.keep (.keep (.keep (.keep (.keep (.keep (.keep (.keep (.keep .nil)))))))))) (fun s20 a23 _ => xg_name) (fun s20 a23 => (pn_seq (pn_asg (px_tup2 (C := (eT2 eI eI)) (fun x27 x28 => (x27, x28)) (px_of fun _ => (xe_var eI rfl)) (px_pcall1 rfl (px_of fun _ => (xe_var eI rfl)) (fun _ => s_law_draw _)) (fun _ _ => rfl))) (fun x25 => (pn_st (f := fun x29 => x29) (sl' := fun s20 : (List (Int × Int)) => [.val (.lr p), .val (eI v_most), .val (eI v_many), .val (eI x13.1), .unk, .unk, .own ((s20).map (eT2 eI eI)), .unk, .unk, .unk]) (pn_app (A := (eT2 eI eI)) (xs := s20) rfl (px_if (pt_B (px_bin (px_pcall1 rfl (px_of fun _ => (xe_c eI rfl)) (fun _ => s_law_draw _)) (px_of fun _ => (xe_c eI rfl)) (op_eq_ faI (by decide)))) (px_of fun _ => (xe_var (eT2 eI eI) rfl)) (px_of fun _ => (xe_revF (B := (eT2 eI eI)) (f := fun x34 => (x34.2, x34.1)) (xe_var (eT2 eI eI) rfl) (fun _ => ⟨_, rfl, rfl⟩))))) (fun x29 => (.keep (.keep (.keep (.keep (.drop (.keep (.keep (.drop (.keep (.keep .nil)))))))))))))))) (fun s36 => (pr_seqN (pn_for (slσ := fun s37 : (List (Int × Int)) => [.val (.lr p), .val (eI v_most), .val (eI v_many), .val (eI x13.1), .unk, .unk, .own ((s37).map (eT2 eI eI)), .unk, .unk, .unk]) (pi_range1 (px_pcall1 rfl (px_of fun _ => (xe_bin (xe_bin (xe_var eI rfl) (xe_lenO (A := (eT2 eI eI)) (xs := s36) rfl) op_sub) (xe_c eI rfl) op_add)) (fun _ => s_law_draw _))) (.keep (.keep (.keep (.keep (.keep (.keep (.keep (.keep (.keep (.keep .nil)))))))))) (fun s37 a44 _ => xg_name) (fun s37 a44 => (pn_st (f := fun x46 => x46) (sl' := fun s37 : (List (Int × Int)) => [.val (.lr p), .val (eI v_most), .val (eI v_many), .val (eI x13.1), .unk, .unk, .own ((s37).map (eT2 eI eI)), .unk, .unk, .unk]) (pn_app (A := (eT2 eI eI)) (xs := s37) rfl (px_pcall1 rfl (px_of fun _ => (xe_var eI rfl)) (fun _ => s_law_two_places _))) (fun x46 => (.keep (.keep (.keep (.keep (.keep (.drop (.keep (.keep (.keep (.keep .nil)))))))))))))) (fun s49 => (pr_seqN (pn_asgG (px_pcall1 rfl (px_of fun _ => (xe_var eI rfl)) (fun _ => s_law_two_places _)) (fun x50 _ => (xg_tup (xgs_cons xg_name (xgs_cons xg_name xgs_nil)) rfl))) (fun x50 => (pr_of fun _ => (sr_ret (xe_tup4 (C := (eT4 eI (eV (eT2 eI eI)) eI eI)) (fun x52 x53 x54 x55 => (x52, x53, x54, x55)) (xe_var eI rfl) (xe_tupleO (A := (eT2 eI eI)) (xs := s49) rfl) (xe_var eI rfl) (xe_var eI rfl) (fun _ _ _ _ => rfl))))))))))))))
def t_law_bridge  : PM (Int × (List (Int × Int)) × Int × Int) :=
  (bP (lP (((((some (0 : Int))).bind fun x2 => ((some (1 : Int))).bind fun x3 => ((some (2 : Int))).bind fun x4 => ((some (3 : Int))).bind fun x5 => some [x2, x3, x4, x5])).bind fun x6 => ((some ([] : List (Int × Int)))).bind fun x7 => some (x6, x7))) fun x1 => (bP (bP (lP (((some (4 : Int))).bind fun x8 => rng1 x8)) fun x13 => (popsG (fun y9 => (bP (lP (some ((y9).length : Int))) fun x12 => (t_law_draw x12))) x13.length x1.1)) fun x11 => (bP (bP (lP (((((some (0 : Int))).bind fun x17 => ((some (1 : Int))).bind fun x18 => some (x17, x18))).bind fun x27 => ((((some (0 : Int))).bind fun x19 => ((some (2 : Int))).bind fun x20 => some (x19, x20))).bind fun x28 => ((((some (1 : Int))).bind fun x21 => ((some (2 : Int))).bind fun x22 => some (x21, x22))).bind fun x29 => ((((some (1 : Int))).bind fun x23 => ((some (3 : Int))).bind fun x24 => some (x23, x24))).bind fun x30 => ((((some (2 : Int))).bind fun x25 => ((some (3 : Int))).bind fun x26 => some (x25, x26))).bind fun x31 => some [x27, x28, x29, x30, x31])) fun x33 => (loopP (fun a32 (s14 : (List (Int × Int))) => (bP (lP (((((some x11.1)).bind fun x35 => ((some a32.1)).bind fun x36 => atT x35 x36)).bind fun x39 => ((((some x11.1)).bind fun x37 => ((some a32.2)).bind fun x38 => atT x37 x38)).bind fun x40 => some (x39, x40))) fun x34 => (bP (bP (bP (bP (bP (lP (some (2 : Int))) fun x43 => (t_law_draw x43)) fun x44 => (bP (lP (some (0 : Int))) fun x45 => (lP (some (decide (x44 = x45)))))) fun x47 => (cond x47 (lP (some x34)) (lP (((some x34)).bind fun x46 => some (x46.2, x46.1))))) fun x42 => (lP (pushM s14 x42))) fun x41 => (lP (some x41))))) x33 x1.2)) fun s48 => (bP (bP (bP (bP (lP (some (3 : Int))) fun x50 => (t_law_draw x50)) fun x51 => (lP (rng1 x51))) fun x53 => (loopP (fun a52 (s49 : (List (Int × Int))) => (bP (bP (bP (lP (some (4 : Int))) fun x56 => (t_law_two_places x56)) fun x55 => (lP (pushM s49 x55))) fun x54 => (lP (some x54)))) x53 s48)) fun s57 => (lP (((some (4 : Int))).bind fun x62 => ((some s57)).bind fun x63 => ((((some x11.1)).bind fun x58 => ((some (0 : Int))).bind fun x59 => atT x58 x59)).bind fun x64 => ((((some x11.1)).bind fun x60 => ((some (3 : Int))).bind fun x61 => atT x60 x61)).bind fun x65 => some (x62, x63, x64, x65)))))))
def t_law_loose (v_mine : (Int × (List (Int × Int)) × Int × Int)) : PM (Int × (List (Int × Int)) × Int × Int) :=
  (bP (bP (bP (lP (some (3 : Int))) fun x2 => (t_law_draw x2)) fun x3 => (bP (lP (some (0 : Int))) fun x4 => (lP (some (decide (x4 < x3)))))) fun x1 => (cond x1 (lP (some v_mine)) (bP (bP (bP (bP (lP (some (1 : Int))) fun x7 => (bP (bP (lP (some (6 : Int))) fun x6 => (t_law_draw x6)) fun x8 => (lP (some (x7 + x8))))) fun x9 => (lP (rng1 x9))) fun x13 => (compP (fun a10 => (lP (some true))) (fun a10 => (bP (lP (((some v_mine)).bind fun x11 => some x11.1)) fun x12 => (t_law_two_places x12))) x13)) fun x5 => (lP (((((some v_mine)).bind fun x14 => some x14.1)).bind fun x18 => ((((some x5)).bind fun x15 => some x15)).bind fun x19 => ((((some v_mine)).bind fun x16 => some x16.2.2.1)).bind fun x20 => ((((some v_mine)).bind fun x17 => some x17.2.2.2)).bind fun x21 => some (x18, x19, x20, x21))))))
theorem s_law_loose (v_mine : (Int × (List (Int × Int)) × Int × Int)) : Gps F_law_loose [(eT4 eI (eV (eT2 eI eI)) eI eI) v_mine] (t_law_loose v_mine) (eT4 eI (eV (eT2 eI eI)) eI eI) := gps_of rfl fun S0 p => by
  unfold M_law_loose t_law_loose
  exact (pr_ifr (pt_B (px_bin (px_pcall1 rfl (px_of fun _ => (xe_c eI rfl)) (fun _ => s_law_draw _)) (px_of fun _ => (xe_c eI rfl)) op_gt)) (pr_of fun _ => (sr_ret (xe_var (eT4 eI (eV (eT2 eI eI)) eI eI) rfl))) (pr_seqN (pn_asg (px_lc (pi_range1 (px_bin (px_of fun _ => (xe_c eI rfl)) (px_pcall1 rfl (px_of fun _ => (xe_c eI rfl)) (fun _ => s_law_draw _)) op_add)) (fun a10 _ => xg_name) (fun a10 => (pt_of fun _ => xt_yes)) (fun a10 => (px_pcall1 rfl (px_of fun _ => (xe_ixF (B := eI) (f := fun x11 => x11.1) (xe_var (eT4 eI (eV (eT2 eI eI)) eI eI) rfl) (fun _ _ => rfl))) (fun _ => s_law_two_places _))))) (fun x5 => (pr_of fun _ => (sr_ret (xe_tup4 (C := (eT4 eI (eV (eT2 eI eI)) eI eI)) (fun x18 x19 x20 x21 => (x18, x19, x20, x21)) (xe_ixF (B := eI) (f := fun x14 => x14.1) (xe_var (eT4 eI (eV (eT2 eI eI)) eI eI) rfl) (fun _ _ => rfl)) (xe_call1 (xe_var (eL (eT2 eI eI)) rfl) (fun _ => g_tupleL)) (xe_ixF (B := eI) (f := fun x16 => x16.2.2.1) (xe_var (eT4 eI (eV (eT2 eI eI)) eI eI) rfl) (fun _ _ => rfl)) (xe_ixF (B := eI) (f := fun x17 => x17.2.2.2) (xe_var (eT4 eI (eV (eT2 eI eI)) eI eI) rfl) (fun _ _ => rfl)) (fun _ _ _ _ => rfl)))))))
end TM
set_option Elab.async false
set_option linter.all false
set_option maxRecDepth 100000
set_option maxHeartbeats 4000000
namespace TM
open PySem PySem.Spec PyProof.Rows L2 MS
section
variable {α β γ δ σ : Type} {S0 : Store} {sl : List Sl} {m m1 m2 mi : MExp} {r : MStm} {A : α → D} {B : β → D} {C : γ → D} {t : Option α} {t1 : Option α} {t2 : Option β}
def repT {α : Type} (a : α) (k : Int) : Option (List α) := cond (decide (-(2 ^ 63) ≤ k) && decide (k < 2 ^ 63) && Nat.ble k.toNat 16777216) (some (List.replicate k.toNat a)) none
def putT {α : Type} (xs : List α) (j : Int) (a : α) : Option (List α) := (L2.ixN xs.length j).map fun k => xs.set k a
def setM {α : Type} (c : α → Option Bool) (f : α → Option Int) (xs : List α) : Option (List Int) := (compGo c f xs).bind fun ys => cond (Nat.ble ys.length 60) (some (sortU ys)) none
end
end TM
set_option Elab.async false
set_option linter.all false
set_option maxRecDepth 100000
set_option maxHeartbeats 4000000
namespace TM
open PySem PySem.Spec PyProof.Rows L2 MS
section
variable {α β γ δ σ : Type} {S0 S : Store} {sl sl' : List Sl} {ρ : Ev} {m : MExp} {r : MStm} {A : α → D} {B : β → D} {C : γ → D} {t : Option α}
theorem g_intB {b : Bool} : Gvs cInt [eB b] (some (if b then 1 else 0 : Int)) eI := fun c e S => by cases e; exact ⟨S, rfl, .refl⟩
end
end TM
set_option Elab.async false
set_option linter.all false
set_option maxRecDepth 100000
set_option maxHeartbeats 4000000
namespace TM
open PySem PySem.Spec PyProof.Rows L2 MS
section
variable {α β γ σ : Type} {S0 : Store} {p : Nat} {sl : List Sl} {m e : MExp} {A : α → D} {B : β → D}
def popC {α : Type} (xs : List α) (k : Int) : Option (α × List α) := cond (Nat.ble xs.length 16777216) (popT xs k) none
end
end TM
set_option Elab.async false
set_option linter.all false
set_option maxRecDepth 100000
set_option maxHeartbeats 4000000
namespace TM
open PySem PySem.Spec PyProof.Rows L2 MS
section
variable {α β γ σ : Type} {S0 : Store} {p : Nat} {sl : List Sl} {m : MExp} {A : α → D} {B : β → D}
theorem xe_neO [DecidableEq α] {da : Nat} (f : Fa A da) (hd : da < 60) {i : Nat} {xs : List α} {ty : Option (List α)} (h : sl[i]? = some (.own (xs.map A))) (h2 : XE S0 sl m ty (eL A)) : XE S0 sl (mBin fNe (mVar i) m) (ty.bind fun y => some (!decide (xs = y))) eB := xe_binO1 (k := fun y => some (!decide (xs = y))) h h2 fun S n b c e q => by
  cases q
  have l : toPy S 64 (.lr n) = toPy S 64 (.lst (xs.map A)) := by
    show ((lat S n).bind fun ds => (ds.mapM (toPy S 63)).map PyData.list) = _
    rw [lat_lst e]
    rfl
  have := fEqG_fa (faL f) (by omega) (g := not) xs b S
  show fEqG not (.lr n) (eL A b) S = _
  unfold fEqG at this ⊢
  rw [l]
  exact this
def whileP {σ : Type} (c : σ → PM Bool) (b : σ → PM σ) : Nat → σ → PM σ
  | 0, _ => fun _ => none
  | n + 1, s => bP (c s) fun k => cond k (bP (b s) fun s' => whileP c b n s') (lP (some s))
end
end TM
set_option Elab.async false
set_option linter.all false
set_option maxRecDepth 100000
set_option maxHeartbeats 4000000
namespace MS
open PySem PySem.Spec PyProof.Rows L2
def mListRg (m : MExp) : MExp := fun ρ S => (m ρ S).bind fun p => match p.1 with
  | .int n => if r62 n = true ∧ n.toNat ≤ 16777216 then some (.lr p.2.length, p.2 ++ [.lst (rangeD 0 n.toNat)]) else none
  | _ => none
theorem rp_range {K : PySem.W.Frag} {H : Hp} {μ : Mu} {n : Int} : RpA K H μ (rgV 0 n) (rangeD 0 n.toNat) := by
  have e1 : rgV 0 n = ((List.range n.toNat).map fun i : Nat => 0 + (i : Int)).map V.int := by
    unfold rgV
    rw [List.map_map, Int.sub_zero]
    rfl
  have e2 : rangeD 0 n.toNat = ((List.range n.toNat).map fun i : Nat => 0 + (i : Int)).map D.int := by
    unfold rangeD
    rw [List.map_map]
    rfl
  rw [e1, e2]
  exact RpA.ints
theorem me_listRg {X : Cx} {a : Expr} {m : MExp} {p p2 q q2 : Pos} (hc : X.calm = true) (hg : Gl X "list") (hm : X.mg "list" = none) (hg2 : Gl X "range") (hm2 : X.mg "range" = none) (ha : ME X a m)
    (n1 : starEach [a] X.env = (false, eval a X.env) :: starEach [] X.env := by rfl) (n2 : starEach [.Call (.Name "range" p2) [a] [] q2] X.env = (false, eval (.Call (.Name "range" p2) [a] [] q2) X.env) :: starEach [] X.env := by rfl) :
    ME X (.Call (.Name "list" p) [.Call (.Name "range" p2) [a] [] q2] [] q) (mListRg m) :=
  ⟨PE.imp (pe_listRg hc hg hm (prg_1 hg2 hm2 ha.pe n1) n2) fun σ H Q ⟨ρ, S, μ, d, S', st, e, k⟩ => by
    obtain ⟨⟨d1, S1⟩, e1, e⟩ := Option.bind_eq_some_iff.mp e
    refine ⟨ρ, S, μ, d1, S1, st, e1, fun v H1 μ1 g1 s1 r1 => ?_⟩
    cases d1 with
    | int n =>
      obtain ⟨hz, e⟩ := (show (r62 n = true ∧ n.toNat ≤ 16777216) ∧ some (D.lr S1.length, S1 ++ [.lst (rangeD 0 n.toNat)]) = some (d, S') by
        have e : (if r62 n = true ∧ n.toNat ≤ 16777216 then some (D.lr S1.length, S1 ++ [.lst (rangeD 0 n.toNat)]) else none) = some (d, S') := e
        split at e
        · exact ⟨by assumption, e⟩
        · cases e)
      cases e
      cases r1
      have hr := r62_iff hz.1
      refine ⟨n, rfl, ⟨by omega, by omega, hr.1, hr.2, by rw [Int.sub_zero]; exact hz.2⟩, fun q hq => ?_⟩
      exact Aft.lst (fun v H' μ' g => k v H' μ' (g1.trans g)) s1 rp_range hq
    | _ => cases e⟩
end MS
set_option Elab.async false
set_option linter.all false
set_option maxRecDepth 100000
set_option maxHeartbeats 4000000
namespace TM
open PySem PySem.Spec PyProof.Rows L2 MS
section
variable {α β γ σ τ : Type} {S0 : Store} {p : Nat} {sl : List Sl} {m m1 m2 m3 : MExp} {A : α → D} {B : β → D} {C : γ → D}
def lrg (j : Int) : Option (List Int) := cond (r62 j && Nat.ble j.toNat 16777216) (some (rangeI 0 j.toNat)) none
theorem xo_listRg {tj : Option Int} (h : XE S0 sl m tj eI) : XO S0 sl (mListRg m) (tj.bind fun j => lrg j) eI := fun ρ S s xs e => by
  obtain ⟨j, e1, e⟩ := bnd e
  unfold lrg at e
  cases c : (r62 j && Nat.ble j.toNat 16777216) with
  | false => rw [c] at e; cases e
  | true =>
    rw [c] at e
    cases e
    rw [Bool.and_eq_true] at c
    obtain ⟨S1, q, a⟩ := h ρ S s j e1
    refine xo_of (S1 := S1) ?_ a
    unfold mListRg
    rw [q]
    show (if r62 j = true ∧ j.toNat ≤ 16777216 then some (D.lr S1.length, S1 ++ [.lst (rangeD 0 j.toNat)]) else none) = _
    rw [if_pos ⟨c.1, Nat.le_of_ble_eq_true c.2⟩, rangeI_map]
theorem xe_fzO {tx : Option (List α)} (h : XO S0 sl m tx A) : XE S0 sl (mFz m) tx (eL A) := fun ρ S s xs e => by
  obtain ⟨n, S1, q, a, hn, hg⟩ := h ρ S s xs e
  refine ⟨S1.set n .gone, ?_, a.wr hn⟩
  unfold mFz
  rw [q]
  show fzD S1 (.lr n) = _
  unfold fzD
  simp only [hg]
end
end TM
set_option Elab.async false
set_option linter.all false
set_option maxRecDepth 100000
set_option maxHeartbeats 4000000
namespace TM
open PySem PySem.Spec PyProof.Rows L2 MS
abbrev Mi := Int × List (Int × Int) × Int × Int
def WOk (n : Int) (w : Int × Int) : Prop := 0 ≤ w.1 ∧ w.1 < n ∧ 0 ≤ w.2 ∧ w.2 < n ∧ w.1 ≠ w.2
structure MOk (M : Mi) : Prop where
  lo : 2 ≤ M.1
  hi : M.1 ≤ 8
  ways : ∀ w ∈ M.2.1, WOk M.1 w
  ends : WOk M.1 (M.2.2.1, M.2.2.2)
def Tre (n : Int) (ws : List (Int × Int)) : Prop := ∀ x : Int, 1 ≤ x → x < n → ∃ y : Int, 0 ≤ y ∧ y < x ∧ ((x, y) ∈ ws ∨ (y, x) ∈ ws)
local macro_rules | `(tactic| walk_at "st") => `(tactic| first
  | with_reducible refine wp_b ?_ | with_reducible refine wp_l ?_ | with_reducible refine wo_b ?_ | with_reducible refine wo_some ?_)
theorem mine_ok {P : Pn} {most many : Int} (h : Good P) (hm : 2 ≤ most) (hm8 : most ≤ 8) (hw : 1 ≤ many) (hw2 : many ≤ 1000) :
    wp (t_law_mine most many) P fun M P' => Good P' ∧ MOk M ∧ Tre M.1 M.2.1 ∧ (M.2.1.length : Int) ≤ many ∧ M.1 ≤ (if most < 3 then 3 else most) ∧ M.1 ≤ many + 1 ∧ M.1 ≤ M.2.1.length + 1 := by
  unfold t_law_mine
  repeat walk_at "st"
  refine (draw_ok h (by omega) (by omega)).mono fun d P1 hd => ?_
  repeat walk_at "st"
  refine (one_of_ok (xs := [2, 3, most, most, 2 + d]) hd.2.2 (List.cons_ne_nil _ _) (show 5 < 2 ^ 60 by decide)).mono fun x P2 hx => ?_
  have hx1 : 2 ≤ x ∧ x ≤ (if most < 3 then 3 else most) := by
    have := hx.1
    simp only [List.mem_cons, List.not_mem_nil, or_false] at this
    have := hd.1
    have := hd.2.1
    split <;> omega
  repeat walk_at "st"
  have hp1 : 2 ≤ (if many + 1 < x then many + 1 else x) ∧ (if many + 1 < x then many + 1 else x) ≤ (if most < 3 then 3 else most) ∧ (if many + 1 < x then many + 1 else x) ≤ many + 1 := by
    split <;> omega
  generalize (if many + 1 < x then many + 1 else x) = p at hp1
  obtain ⟨p1, p2, p3⟩ := hp1
  have p8 : p ≤ 8 := by split at p2 <;> omega
  refine wo_rng2 (by show -1000 ≤ p; omega) (by show p < 1000000000; omega) (by omega) (by omega) ?_
  refine wp_loop (i := 0) (fun i (s : List (Int × Int)) P => Good P ∧ s.length = i ∧ (∀ w ∈ s, WOk p w) ∧ Tre (1 + (i : Int)) s) ⟨hx.2, rfl, (fun _ z => nomatch z), fun x h1 (h2 : x < 1 + ((0 : Nat) : Int)) => by omega⟩ (fun j k s P3 hk hi => ?_) (fun s P3 hi => ?_)
  · obtain ⟨g, hl, hws, ht⟩ := hi
    obtain ⟨rfl, hj⟩ := rangeI_get hk
    have hj : j < (p - 1).toNat := hj
    repeat walk_at "st"
    refine (draw_ok g (by omega) (by omega)).mono fun y P4 hy => ?_
    repeat walk_at "st"
    refine (draw_ok hy.2.2 (by omega) (by omega)).mono fun c P5 hc => ?_
    repeat walk_at "st"
    have step : ∀ w : Int × Int, (w = (1 + (j : Int), y) ∨ w = (y, 1 + (j : Int))) → wo (pushM s w) fun a => wp (lP (some a)) P5 fun s' P' => Good P' ∧ s'.length = 0 + j + 1 ∧ (∀ w ∈ s', WOk p w) ∧ Tre (1 + ((0 + j + 1 : Nat) : Int)) s' := fun w hwv => by
      refine wo_push (by omega) (wp_l (wo_some ⟨hc.2.2, by rw [List.length_append, hl]; rfl, fun v hv => ?_, fun x h1 h2 => ?_⟩))
      · rcases List.mem_append.mp hv with hv | hv
        · exact hws v hv
        · rw [List.mem_singleton.mp hv]
          have := hy.1
          have := hy.2.1
          rcases hwv with rfl | rfl
          · exact ⟨by show 0 ≤ 1 + (j : Int); omega, by show 1 + (j : Int) < p; omega, hy.1, by show y < p; omega, by show 1 + (j : Int) ≠ y; omega⟩
          · exact ⟨hy.1, by show y < p; omega, by show 0 ≤ 1 + (j : Int); omega, by show 1 + (j : Int) < p; omega, by show y ≠ 1 + (j : Int); omega⟩
      · by_cases hxe : x = 1 + (j : Int)
        · subst hxe
          refine ⟨y, hy.1, hy.2.1, ?_⟩
          rcases hwv with rfl | rfl
          · exact .inl (List.mem_append_right _ (List.mem_singleton.mpr rfl))
          · exact .inr (List.mem_append_right _ (List.mem_singleton.mpr rfl))
        · obtain ⟨z, z1, z2, z3⟩ := ht x h1 (by show x < 1 + ((0 + j : Nat) : Int); have : x < 1 + ((0 + j + 1 : Nat) : Int) := h2; omega)
          exact ⟨z, z1, z2, z3.imp (List.mem_append_left _) (List.mem_append_left _)⟩
    refine wp_if (fun hk => ?_) (fun hk => ?_)
    · repeat walk_at "st"
      exact step _ (.inl rfl)
    · repeat walk_at "st"
      exact step _ (.inr rfl)
  · obtain ⟨g, hl, hws, ht⟩ := hi
    rw [rangeI_len] at hl ht
    have hl : s.length = 0 + (p - 1).toNat := hl
    have ht : Tre (1 + ((0 + (p - 1).toNat : Nat) : Int)) s := ht
    rw [show 1 + ((0 + (p - 1).toNat : Nat) : Int) = p by omega] at ht
    repeat walk_at "st"
    refine (draw_ok g (by omega) (by omega)).mono fun n P4 hn => ?_
    have hn1 := hn.1
    have hn2 := hn.2.1
    repeat walk_at "st"
    refine wo_rng1 (by omega) (by omega) ?_
    refine wp_loop (i := 0) (fun i (s' : List (Int × Int)) P => Good P ∧ s'.length = s.length + i ∧ (∀ w ∈ s', WOk p w) ∧ Tre p s') ⟨hn.2.2, rfl, hws, ht⟩ (fun j k s' P3 hk hi => ?_) (fun s' P3 hi => ?_)
    · obtain ⟨g, hl', hws', ht'⟩ := hi
      obtain ⟨rfl, hj⟩ := rangeI_get hk
      repeat walk_at "st"
      refine (two_places_ok g (by omega) (by show p < 2 ^ 60; omega)).mono fun w P5 hw5 => ?_
      repeat walk_at "st"
      refine wo_push (by omega) ?_
      repeat walk_at "st"
      refine ⟨hw5.2, by rw [List.length_append, hl']; show s.length + (0 + j) + 1 = _; omega, fun v hv => ?_, fun x h1 h2 => ?_⟩
      · rcases List.mem_append.mp hv with hv | hv
        · exact hws' v hv
        · rw [List.mem_singleton.mp hv]; exact hw5.1
      · obtain ⟨z, z1, z2, z3⟩ := ht' x h1 h2
        exact ⟨z, z1, z2, z3.imp (List.mem_append_left _) (List.mem_append_left _)⟩
    · obtain ⟨g, hl', hws', ht'⟩ := hi
      rw [rangeI_len] at hl'
      repeat walk_at "st"
      refine (two_places_ok g (by omega) (by show p < 2 ^ 60; omega)).mono fun w P5 hw5 => ?_
      repeat walk_at "st"
      refine ⟨hw5.2, ⟨p1, p8, hws', hw5.1⟩, ht', ?_, p2, p3, ?_⟩
      · show (s'.length : Int) ≤ many
        omega
      · show p ≤ (s'.length : Int) + 1
        omega
theorem loose_ok {P : Pn} {M : Mi} (h : Good P) (ok : MOk M) : wp (t_law_loose M) P fun M' P' => Good P' ∧ (M' = M ∨ MOk M' ∧ M'.1 = M.1 ∧ M'.2.1.length ≤ 6) := by
  have h1 := ok.lo
  have h2 := ok.hi
  unfold t_law_loose
  repeat walk_at "st"
  refine (draw_ok h (by decide) (by decide)).mono fun d P1 hd => ?_
  repeat walk_at "st"
  refine wp_if (fun hk => ?_) (fun hk => ?_)
  · exact wp_l (wo_some ⟨hd.2.2, .inl rfl⟩)
  repeat walk_at "st"
  refine (draw_ok hd.2.2 (by decide) (by decide)).mono fun n P2 hn => ?_
  have hn1 := hn.1
  have hn2 := hn.2.1
  repeat walk_at "st"
  refine wo_rng1 (by omega) (by omega) ?_
  refine wp_comp Good (WOk M.1) (by rw [rangeI_len]; omega) hn.2.2 (fun x P3 hx g => ?_) (fun ys P3 hl hys g => ?_)
  · repeat walk_at "st"
    exact (two_places_ok g h1 (by omega)).mono fun w P4 hw => hw
  · repeat walk_at "st"
    rw [rangeI_len] at hl
    refine ⟨g, .inr ⟨⟨h1, h2, hys, ok.ends⟩, rfl, ?_⟩⟩
    show ys.length ≤ 6
    omega
end TM
set_option Elab.async false
set_option linter.all false
set_option maxRecDepth 100000
set_option maxHeartbeats 4000000
namespace TM
open PySem PySem.Spec PyProof.Rows L2 MS
local macro_rules | `(tactic| walk_at "st") => `(tactic| first
  | with_reducible refine wp_b ?_ | with_reducible refine wp_l ?_ | with_reducible refine wo_b ?_ | with_reducible refine wo_some ?_)
structure Ord_ (n : Nat) (ys : List Int) : Prop where
  len : ys.length = n
  nd : ys.Nodup
  bd : ∀ y ∈ ys, 0 ≤ y ∧ y < n
end TM
set_option Elab.async false
set_option linter.all false
set_option maxRecDepth 100000
set_option maxHeartbeats 4000000
namespace TM
open PySem PySem.Spec PyProof.Rows L2 MS
structure Sz (p : PyData) (n : Nat) : Prop where
  sml : sml p = true
  wt : wt p ≤ n
theorem Sz.int {i : Int} (h : i.natAbs < 1000000) : Sz (.int i) 42 := ⟨decide_eq_true (Nat.lt_trans h (by decide)), Nat.le_refl _⟩
theorem repr_ok {p : PyData} {n : Nat} {Q : Str → Prop} (h : Sz p n) (hd : p.depth ≤ 64) (hn : n ≤ 16777216) (q : Q p.shown) : wo (repr_ p) Q := by
  unfold repr_
  rw [okShow_of h.sml hd (Nat.le_trans h.wt hn)]
  exact wo_some q
section
variable {α β : Type}
theorem compGo_eq {c : α → Option Bool} {f : α → Option β} (p : α → Bool) (g : α → β) : ∀ {xs : List α}, (∀ x ∈ xs, c x = some (p x)) → (∀ x ∈ xs, p x = true → f x = some (g x)) → compGo c f xs = some ((xs.filter p).map g)
  | [], _, _ => rfl
  | x :: xs, hc, hf => by
    have ih := compGo_eq p g (xs := xs) (fun y hy => hc y (List.mem_cons_of_mem _ hy)) fun y hy => hf y (List.mem_cons_of_mem _ hy)
    show ((c x).bind fun k => cond k ((f x).bind fun y => (compGo c f xs).bind fun ys => some (y :: ys)) (compGo c f xs)) = _
    rw [hc x (List.mem_cons_self ..)]
    show cond (p x) _ _ = _
    cases k : p x with
    | true =>
      rw [cond_true, hf x (List.mem_cons_self ..) k, ih, List.filter_cons_of_pos k]
      rfl
    | false =>
      rw [cond_false, ih, List.filter_cons_of_neg (by rw [k]; decide)]
theorem compM_eq {c : α → Option Bool} {f : α → Option β} (p : α → Bool) (g : α → β) {xs : List α} (hz : xs.length ≤ 16777216) (hc : ∀ x ∈ xs, c x = some (p x)) (hf : ∀ x ∈ xs, p x = true → f x = some (g x)) : compM c f xs = some ((xs.filter p).map g) := by
  unfold compM
  rw [Nat.ble_eq_true_of_le hz]
  exact compGo_eq p g hc hf
theorem compM_all {f : α → Option β} (g : α → β) {xs : List α} (hz : xs.length ≤ 16777216) (hf : ∀ x ∈ xs, f x = some (g x)) : compM (fun _ => some true) f xs = some (xs.map g) := by
  rw [compM_eq (fun _ => true) g hz (fun _ _ => rfl) fun x hx _ => hf x hx]
  congr 2
  exact List.filter_eq_self.mpr fun _ _ => rfl
theorem extM_eq {xs ys : List α} (h : xs.length + ys.length ≤ 16777216) : extM xs ys = some (xs ++ ys) := by
  unfold extM
  rw [Nat.ble_eq_true_of_le h]
  rfl
theorem loopN_flat {f : α → List β → Option (List β)} (g : α → List β) : ∀ {xs : List α} {s0 : List β}, (∀ x ∈ xs, ∀ s : List β, s.length + (g x).length ≤ s0.length + (xs.flatMap g).length → f x s = some (s ++ g x)) → loopN f xs s0 = some (s0 ++ xs.flatMap g)
  | [], s0, _ => by rw [List.flatMap_nil, List.append_nil]; rfl
  | x :: xs, s0, h => by
    show ((f x s0).bind fun s' => loopN f xs s') = _
    rw [h x (List.mem_cons_self ..) s0 (by rw [List.flatMap_cons, List.length_append]; omega)]
    show loopN f xs (s0 ++ g x) = _
    rw [loopN_flat g (s0 := s0 ++ g x) fun y hy s hs => h y (List.mem_cons_of_mem _ hy) s (by rw [List.flatMap_cons, List.length_append]; rw [List.length_append] at hs; omega), List.flatMap_cons, List.append_assoc]
theorem atT_nat {xs : List α} {k : Nat} {x : α} (h : xs[k]? = some x) : atT xs (k : Int) = some x := L2.atI_nat h
end
theorem wo_eq {α : Type} {t : Option α} {a : α} {Q : α → Prop} (h : t = some a) (q : Q a) : wo t Q := ⟨a, h, q⟩
theorem eq_wo {α : Type} {t : Option α} {a : α} (h : wo t fun b => b = a) : t = some a := by obtain ⟨b, e, rfl⟩ := h; exact e
theorem flat_count {α β : Type} {f : α → List β} {p : α → Bool} {B : Nat} : ∀ {l : List α}, (∀ a ∈ l, (f a).length ≤ cond (p a) B 0) → (l.flatMap f).length ≤ l.countP p * B
  | [], _ => Nat.zero_le _
  | a :: l, h => by
    have h1 := h a (List.mem_cons_self ..)
    have h2 := flat_count (l := l) fun b hb => h b (List.mem_cons_of_mem _ hb)
    rw [List.flatMap_cons, List.length_append, List.countP_cons]
    cases k : p a with
    | true => rw [k] at h1; simp only [cond_true] at h1; simp only [if_true]; rw [Nat.succ_mul]; omega
    | false => rw [k] at h1; simp only [cond_false] at h1; simp only [Bool.false_eq_true, if_false]; rw [Nat.add_zero]; omega
end TM
set_option Elab.async false
set_option linter.all false
set_option maxRecDepth 100000
set_option maxHeartbeats 4000000
namespace TM
open PySem PySem.Spec PyProof.Rows L2 MS
def asV : D → Option (List D)
  | .tup ds => some ds
  | _ => none
def asI : D → Option Int
  | .int i => some i
  | _ => none
def asT2 : D → Option (D × D)
  | .tup [a, b] => some (a, b)
  | _ => none
def asT3 : D → Option (D × D × D)
  | .tup [a, b, c] => some (a, b, c)
  | _ => none
section
variable {α β γ δ σ τ : Type} {S0 S S' : Store} {p : Nat} {sl : List Sl} {m m1 m2 m3 : MExp} {r s1 s2 : MStm} {A : α → D} {B : β → D} {C : γ → D} {t t1 : Option α} {t2 : Option β} {t3 : Option γ}
theorem as_V : ∀ d b, asV d = some b → d = eV eD b := fun d b e => by
  unfold asV at e
  split at e
  · cases e; show _ = D.tup (b.map eD); rw [show (eD : D → D) = id from rfl, List.map_id]
  · cases e
theorem as_I : ∀ d b, asI d = some b → d = eI b := fun d b e => by
  unfold asI at e
  split at e <;> cases e; rfl
theorem as_T2 : ∀ d b, asT2 d = some b → d = eT2 eD eD b := fun d b e => by
  unfold asT2 at e
  split at e <;> cases e; rfl
theorem as_T3 : ∀ d b, asT3 d = some b → d = eT3 eD eD eD b := fun d b e => by
  unfold asT3 at e
  split at e <;> cases e; rfl
theorem xe_view {as : D → Option β} {td : Option D} (hv : ∀ d b, as d = some b → d = B b) (h : XE S0 sl m td eD) : XE S0 sl m (td.bind as) B := fun ρ S s b e => by
  obtain ⟨d, e1, e⟩ := bnd e
  obtain ⟨S', q, a1⟩ := h ρ S s d e1
  exact ⟨S', by rw [q]; show some (d, S') = _; rw [hv d b e], a1⟩
def isiT (T : String) (d : D) : Option Bool := cond (okTy [] d) (kitB (tyD d) T) none
def reprD (d : D) : Option Str := (toPyX [] 64 d).bind fun p => cond (okShowX p) (some p.shown) none
theorem lat_nil {n : Nat} : lat [] n = none := by unfold lat; simp
theorem mapM_mono {f g : D → Option PyData} (h : ∀ d p, f d = some p → g d = some p) : ∀ (ds : List D) (ps : List PyData), ds.mapM f = some ps → ds.mapM g = some ps
  | [], _, e => by rw [List.mapM_nil] at e ⊢; exact e
  | d :: ds, ps, e => by
    rw [List.mapM_cons] at e ⊢
    obtain ⟨p, e1, e⟩ := Option.bind_eq_some_iff.mp e
    obtain ⟨qs, e2, e⟩ := Option.bind_eq_some_iff.mp e
    cases e
    rw [h _ _ e1]
    show (ds.mapM g).bind _ = _
    rw [mapM_mono h _ _ e2]
    rfl
theorem toPyX_mono (S : Store) : ∀ (n : Nat) (d : D) (p : PyData), toPyX [] n d = some p → toPyX S n d = some p := by
  intro n
  induction n with
  | zero => intro d p e; cases e
  | succ n ih =>
    intro d p e
    cases d with
    | lr k =>
      have e : ((lat [] k).bind fun ds => (ds.mapM (toPyX [] n)).map PyData.list) = some p := e
      rw [lat_nil] at e
      cases e
    | tup ds =>
      obtain ⟨ps, e1, e2⟩ := Option.map_eq_some_iff.mp (show (ds.mapM (toPyX [] n)).map PyData.tuple = some p from e)
      show (ds.mapM (toPyX S n)).map PyData.tuple = some p
      rw [mapM_mono ih _ _ e1]
      exact congrArg some e2
    | lst ds =>
      obtain ⟨ps, e1, e2⟩ := Option.map_eq_some_iff.mp (show (ds.mapM (toPyX [] n)).map PyData.list = some p from e)
      show (ds.mapM (toPyX S n)).map PyData.list = some p
      rw [mapM_mono ih _ _ e1]
      exact congrArg some e2
    | fl ds =>
      obtain ⟨ps, e1, e2⟩ := Option.map_eq_some_iff.mp (show (ds.mapM (toPyX [] n)).map PyData.list = some p from e)
      show (ds.mapM (toPyX S n)).map PyData.list = some p
      rw [mapM_mono ih _ _ e1]
      exact congrArg some e2
    | dk ks ds =>
      match ks, ds, e with
      | [], [], e => exact e
    | non => exact e
    | bl => exact e
    | int => exact e
    | str => exact e
    | dt => cases e
    | ins => cases e
    | fn => cases e
theorem g_reprD {d : D} : Gvs cReprX [d] (reprD d) eS := fun c e S => by
  refine ⟨S, ?_, .refl⟩
  obtain ⟨p, e1, e⟩ := bnd e
  show ((toPyX S 64 d).bind fun p => if okShowX p then some (D.str p.shown, S) else none) = _
  rw [toPyX_mono S _ _ _ e1]
  cases k : okShowX p with
  | true =>
    rw [k] at e
    cases e
    show (if okShowX p then some (D.str p.shown, S) else none) = _
    rw [if_pos k]
  | false => rw [k] at e; cases e
def mulV {α : Type} (xs : List α) (k : Int) : Option (List α) := cond (!xs.isEmpty && decide (1 ≤ k) && decide (k ≤ 1000) && Nat.ble xs.length 1000) (some (List.replicate k.toNat xs).flatten) none
end
inductive Rz (α : Type) where
  | ok (a : α) | ex (c f : Str) (d : D)
def Rz.by {α β : Type} (f : α → Option β) (g : Str → Str → D → Option β) : Rz α → Option β
  | .ok a => f a
  | .ex c x d => g c x d
section
variable {α β γ δ σ τ : Type} {S0 S S' : Store} {p : Nat} {sl : List Sl} {m m1 m2 m3 : MExp} {r s1 s2 : MStm} {A : α → D} {B : β → D} {C : γ → D} {t t1 : Option α} {t2 : Option β} {t3 : Option γ}
end
end TM
set_option Elab.async false
set_option linter.all false
set_option maxRecDepth 100000
set_option maxHeartbeats 4000000
namespace TM
open PySem PySem.Spec PyProof.Rows L2 MS
def M_is_integer_within : MStm :=
  (mSeq (mIfS (mOr (mNot (mB (mIsi (mVar 0) "int"))) (mB (mIsi (mVar 0) "bool"))) (mRet (mC (.bl false))) mNx)
    (mRet (mChain fLe fLe (mVar 1) (mVar 0) (mVar 2))))
def F_is_integer_within : DCall := den 3 3 M_is_integer_within
def M_law_whole : MStm :=
  (mRet (mAndV (mIsi (mVar 0) "int") (mAndV (mNotV (mIsi (mVar 0) "bool")) (mChain fLe fLe (mVar 1) (mVar 0) (mVar 2)))))
def F_law_whole : DCall := den 3 3 M_law_whole
def M_law_odd : MStm :=
  (mSeq (mAsg (mLstV (mCons (mC .non) (mCons (mC (.bl true)) (mCons (mC (.bl false)) (mCons (mNeg (mC (.int 1))) (mCons (mC (.int 0)) (mCons (mC (.int 1)) (mCons (mC (.int 2)) (mCons (mC (.int 3)) (mCons (mC (.int 8)) (mCons (mC (.int 9)) (mCons (mC (.int 24)) (mCons (mC (.str (Str.ofString ""))) (mCons (mC (.str (Str.ofString "0"))) (mCons (mC (.str (Str.ofString "first"))) (mCons (mTup mNil) (mCons (mLstV mNil) (mCons (mFz mDNewK) (mCons (mTup (mCons (mC (.int 0)) mNil)) (mCons (mTup (mCons (mC (.int 0)) (mCons (mC (.int 1)) mNil))) (mCons (mTup (mCons (mC (.int 0)) (mCons (mC (.int 1)) (mCons (mC (.int 2)) mNil)))) mNil))))))))))))))))))))) (mName 1))
    (mRet (mCall F_law_one_of (mCons (mVar 0) (mCons (mBin fAdd (mVar 1) (mLstV (mCons (mBin fPow (mC (.int 10)) (mC (.int 12))) (mCons (mBin fAdd (mBin fPow (mC (.int 10)) (mC (.int 12))) (mC (.int 1))) (mCons (mBin fSub (mNeg (mBin fPow (mC (.int 10)) (mC (.int 12)))) (mC (.int 1))) (mCons (mTup (mCons (mTup mNil) mNil)) (mCons (mLstV (mCons (mC (.int 1)) mNil)) (mCons (mTup (mCons (mC (.int 1)) (mCons (mTup mNil) mNil))) (mCons (mTup (mCons (mC .non) (mCons (mC (.int 0)) (mCons (mC (.int 0)) mNil)))) mNil))))))))) mNil)))))
def F_law_odd : DCall := den 1 2 M_law_odd
def M_law_bent (R : DCall) : MStm :=
  (mSeq (mIfS (mOr (mNot (mB (mIsi (mVar 1) "tuple"))) (mOr (mB (mBin fEqX (mVar 1) (mTup mNil))) (mOr (mB (mBin fEq (mVar 2) (mC (.int 0)))) (mB (mBin fEq (mCall F_law_draw (mCons (mVar 0) (mCons (mC (.int 6)) mNil))) (mC (.int 0))))))) (mSeq (mAsg (mCall F_law_draw (mCons (mVar 0) (mCons (mC (.int 8)) mNil))) (mName 4))
    (mSeq (mIfS (mAnd (mB (mIsi (mVar 1) "int")) (mAnd (mNot (mB (mIsi (mVar 1) "bool"))) (mB (mBin fLt (mVar 4) (mC (.int 6)))))) (mRet (mBin fIx (mLstV (mCons (mBin fAdd (mVar 1) (mC (.int 1))) (mCons (mBin fSub (mVar 1) (mC (.int 1))) (mCons (mBin fEq (mVar 1) (mC (.int 1))) (mCons (mC (.int 0)) (mCons (mNeg (mC (.int 1))) (mCons (mBin fAdd (mVar 1) (mC (.int 1))) mNil))))))) (mVar 4))) mNx)
    (mSeq (mIfS (mAnd (mB (mIsi (mVar 1) "tuple")) (mB (mBin fLt (mVar 4) (mC (.int 6))))) (mRet (mBin fIx (mLstV (mCons (mSl (mVar 1) (mPart (mC (.int 1))) mNoPart) (mCons (mSl (mVar 1) mNoPart (mPart (mNeg (mC (.int 1))))) (mCons (mBin fAdd (mVar 1) (mSl (mVar 1) mNoPart (mPart (mC (.int 1))))) (mCons (mRevT (mVar 1)) (mCons (mCall (cFz cList) (mCons (mVar 1) mNil)) (mCons (mBin fAdd (mVar 1) (mTup (mCons (mC (.int 0)) mNil))) mNil))))))) (mVar 4))) mNx)
    (mRet (mCall F_law_odd (mCons (mVar 0) mNil)))))) mNx)
    (mSeq (mAsg (mCall F_law_draw (mCons (mVar 0) (mCons (mCall cLen (mCons (mVar 1) mNil)) mNil))) (mName 3))
    (mRet (mBin fAdd (mBin fAdd (mSl (mVar 1) mNoPart (mPart (mVar 3))) (mTup (mCons (mCall R (mCons (mVar 0) (mCons (mBin fIx (mVar 1) (mVar 3)) (mCons (mBin fSub (mVar 2) (mC (.int 1))) mNil)))) mNil))) (mSl (mVar 1) (mPart (mBin fAdd (mVar 3) (mC (.int 1)))) mNoPart)))))
def F_law_bentR : Nat → DCall
  | 0 => fun _ _ => none
  | n + 1 => den 3 5 (M_law_bent (F_law_bentR n))
abbrev F_law_bent : DCall := F_law_bentR 12
def M_law_is_tuple : MStm :=
  (mRet (mAndV (mIsi (mVar 0) "tuple") (mBin fEq (mCall cLen (mCons (mVar 0) mNil)) (mVar 1))))
def F_law_is_tuple : DCall := den 2 2 M_law_is_tuple
def t_is_integer_within (v_value : D) (v_least : Int) (v_most : Int) : Option Bool :=
  (((((((((some v_value)).bind fun x3 => isiT "int" x3)).bind fun x4 => some (!x4))).bind fun x5 => cond x5 (some true) (((some v_value)).bind fun x2 => isiT "bool" x2))).bind fun x1 => cond x1 (some false) (((some v_least)).bind fun x7 => ((((some v_value)).bind fun x6 => asI x6)).bind fun x8 => (some (decide (x7 ≤ x8))).bind fun x10 => cond x10 (((some v_most)).bind fun x9 => some (decide (x8 ≤ x9))) (some false)))
def t_law_whole (v_value : D) (v_low : Int) (v_high : Int) : Option Bool :=
  (((((some v_value)).bind fun x9 => isiT "int" x9)).bind fun x10 => cond x10 (((((((some v_value)).bind fun x6 => isiT "bool" x6)).bind fun x7 => some (!x7))).bind fun x8 => cond x8 (((some v_low)).bind fun x2 => ((((some v_value)).bind fun x1 => asI x1)).bind fun x3 => (some (decide (x2 ≤ x3))).bind fun x5 => cond x5 (((some v_high)).bind fun x4 => some (decide (x3 ≤ x4))) (some false)) (some false)) (some false))
def t_law_odd  : PM D :=
  (bP (lP (((((some D.non)).bind fun x65 => ((((((some true)).bind fun x2 => some (eB x2))).bind fun x63 => ((((((some false)).bind fun x3 => some (eB x3))).bind fun x61 => ((((((((some (1 : Int))).bind fun x4 => some (-x4))).bind fun x5 => some (eI x5))).bind fun x59 => ((((((some (0 : Int))).bind fun x6 => some (eI x6))).bind fun x57 => ((((((some (1 : Int))).bind fun x7 => some (eI x7))).bind fun x55 => ((((((some (2 : Int))).bind fun x8 => some (eI x8))).bind fun x53 => ((((((some (3 : Int))).bind fun x9 => some (eI x9))).bind fun x51 => ((((((some (8 : Int))).bind fun x10 => some (eI x10))).bind fun x49 => ((((((some (9 : Int))).bind fun x11 => some (eI x11))).bind fun x47 => ((((((some (24 : Int))).bind fun x12 => some (eI x12))).bind fun x45 => ((((((some (Str.ofString ""))).bind fun x13 => some (eS x13))).bind fun x43 => ((((((some (Str.ofString "0"))).bind fun x14 => some (eS x14))).bind fun x41 => ((((((some (Str.ofString "first"))).bind fun x15 => some (eS x15))).bind fun x39 => ((((((some ([] : (List D)))).bind fun x16 => some ((eV eD) x16))).bind fun x37 => ((((((some ([] : (List D)))).bind fun x17 => some ((eL eD) x17))).bind fun x35 => ((((some (D.dk [] []))).bind fun x33 => ((((((((some (0 : Int))).bind fun x18 => some [x18])).bind fun x19 => some ((eV eI) x19))).bind fun x31 => ((((((((some (0 : Int))).bind fun x20 => ((some (1 : Int))).bind fun x21 => some (x20, x21))).bind fun x22 => some ((eT2 eI eI) x22))).bind fun x29 => ((((((((some (0 : Int))).bind fun x23 => ((some (1 : Int))).bind fun x24 => ((some (2 : Int))).bind fun x25 => some (x23, x24, x25))).bind fun x26 => some ((eT3 eI eI eI) x26))).bind fun x27 => ((some ([] : List D))).bind fun x28 => some (x27 :: x28))).bind fun x30 => some (x29 :: x30))).bind fun x32 => some (x31 :: x32))).bind fun x34 => some (x33 :: x34))).bind fun x36 => some (x35 :: x36))).bind fun x38 => some (x37 :: x38))).bind fun x40 => some (x39 :: x40))).bind fun x42 => some (x41 :: x42))).bind fun x44 => some (x43 :: x44))).bind fun x46 => some (x45 :: x46))).bind fun x48 => some (x47 :: x48))).bind fun x50 => some (x49 :: x50))).bind fun x52 => some (x51 :: x52))).bind fun x54 => some (x53 :: x54))).bind fun x56 => some (x55 :: x56))).bind fun x58 => some (x57 :: x58))).bind fun x60 => some (x59 :: x60))).bind fun x62 => some (x61 :: x62))).bind fun x64 => some (x63 :: x64))).bind fun x66 => some (x65 :: x66))).bind fun x67 => cond (Nat.ble x67.length 16777216) (some x67) none)) fun x1 => (bP (lP (((some x1)).bind fun x110 => ((((((((((some (10 : Int))).bind fun x68 => ((some (12 : Int))).bind fun x69 => pow_ x68 x69)).bind fun x70 => some (eI x70))).bind fun x107 => ((((((((((some (10 : Int))).bind fun x71 => ((some (12 : Int))).bind fun x72 => pow_ x71 x72)).bind fun x73 => ((some (1 : Int))).bind fun x74 => some (x73 + x74))).bind fun x75 => some (eI x75))).bind fun x105 => ((((((((((((some (10 : Int))).bind fun x76 => ((some (12 : Int))).bind fun x77 => pow_ x76 x77)).bind fun x78 => some (-x78))).bind fun x79 => ((some (1 : Int))).bind fun x80 => some (x79 - x80))).bind fun x81 => some (eI x81))).bind fun x103 => ((((((((some ([] : (List D)))).bind fun x82 => some [x82])).bind fun x83 => some ((eV (eV eD)) x83))).bind fun x101 => ((((((((((some (1 : Int))).bind fun x85 => some (eI x85))).bind fun x86 => some [x86])).bind fun x87 => some ((eL eD) x87))).bind fun x99 => ((((((((some (1 : Int))).bind fun x88 => ((some ([] : (List D)))).bind fun x89 => some (x88, x89))).bind fun x90 => some ((eT2 eI (eV eD)) x90))).bind fun x97 => ((((((((some ())).bind fun x91 => ((some (0 : Int))).bind fun x92 => ((some (0 : Int))).bind fun x93 => some (x91, x92, x93))).bind fun x94 => some ((eT3 eN eI eI) x94))).bind fun x95 => ((some ([] : List D))).bind fun x96 => some (x95 :: x96))).bind fun x98 => some (x97 :: x98))).bind fun x100 => some (x99 :: x100))).bind fun x102 => some (x101 :: x102))).bind fun x104 => some (x103 :: x104))).bind fun x106 => some (x105 :: x106))).bind fun x108 => some (x107 :: x108))).bind fun x109 => cond (Nat.ble x109.length 16777216) (some x109) none)).bind fun x111 => extM x110 x111)) fun x112 => (t_law_one_of x112)))
def t_law_bent : Nat → D → Int → PM D
  | 0, _, _ => fun _ => none
  | n + 1, v_value, v_depth => (bP (bP (lP (((((some v_value)).bind fun x12 => isiT "tuple" x12)).bind fun x13 => some (!x13))) fun x14 => (cond x14 (lP (some true)) (bP (lP (((((some v_value)).bind fun x8 => asV x8)).bind fun x9 => ((some ([] : (List D)))).bind fun x10 => cond x10.isEmpty (some x9.isEmpty) none)) fun x11 => (cond x11 (lP (some true)) (bP (lP (((some v_depth)).bind fun x5 => ((some (0 : Int))).bind fun x6 => some (decide (x5 = x6)))) fun x7 => (cond x7 (lP (some true)) (bP (bP (lP (some (6 : Int))) fun x2 => (t_law_draw x2)) fun x3 => (bP (lP (some (0 : Int))) fun x4 => (lP (some (decide (x3 = x4)))))))))))) fun x1 => (cond x1 (bP (bP (lP (some (8 : Int))) fun x16 => (t_law_draw x16)) fun x15 => (bP (lP (((((some v_value)).bind fun x23 => isiT "int" x23)).bind fun x24 => cond x24 (((((((some v_value)).bind fun x20 => isiT "bool" x20)).bind fun x21 => some (!x21))).bind fun x22 => cond x22 (((some x15)).bind fun x18 => ((some (6 : Int))).bind fun x19 => some (decide (x18 < x19))) (some false)) (some false))) fun x17 => (cond x17 (lP (((((((((((some v_value)).bind fun x25 => asI x25)).bind fun x26 => ((some (1 : Int))).bind fun x27 => some (x26 + x27))).bind fun x38 => some (eI x38))).bind fun x44 => ((((((((some v_value)).bind fun x28 => asI x28)).bind fun x29 => ((some (1 : Int))).bind fun x30 => some (x29 - x30))).bind fun x39 => some (eI x39))).bind fun x45 => ((((((((some v_value)).bind fun x31 => asI x31)).bind fun x32 => ((some (1 : Int))).bind fun x33 => some (decide (x32 = x33)))).bind fun x40 => some (eB x40))).bind fun x46 => ((((some (0 : Int))).bind fun x41 => some (eI x41))).bind fun x47 => ((((((some (1 : Int))).bind fun x34 => some (-x34))).bind fun x42 => some (eI x42))).bind fun x48 => ((((((((some v_value)).bind fun x35 => asI x35)).bind fun x36 => ((some (1 : Int))).bind fun x37 => some (x36 + x37))).bind fun x43 => some (eI x43))).bind fun x49 => some [x44, x45, x46, x47, x48, x49])).bind fun x50 => ((some x15)).bind fun x51 => atT x50 x51)) (bP (lP (((((some v_value)).bind fun x55 => isiT "tuple" x55)).bind fun x56 => cond x56 (((some x15)).bind fun x53 => ((some (6 : Int))).bind fun x54 => some (decide (x53 < x54))) (some false))) fun x52 => (cond x52 (lP (((((((((((some v_value)).bind fun x57 => asV x57)).bind fun x59 => ((((some (1 : Int))).bind fun x58 => some (some x58))).bind fun x60 => ((some none)).bind fun x61 => some (cutT x59 x60 x61))).bind fun x91 => some ((eV eD) x91))).bind fun x97 => ((((((((some v_value)).bind fun x62 => asV x62)).bind fun x65 => ((some none)).bind fun x66 => ((((((some (1 : Int))).bind fun x63 => some (-x63))).bind fun x64 => some (some x64))).bind fun x67 => some (cutT x65 x66 x67))).bind fun x92 => some ((eV eD) x92))).bind fun x98 => ((((((((some v_value)).bind fun x73 => asV x73)).bind fun x79 => ((((((some v_value)).bind fun x74 => asV x74)).bind fun x76 => ((some none)).bind fun x77 => ((((some (1 : Int))).bind fun x75 => some (some x75))).bind fun x78 => some (cutT x76 x77 x78))).bind fun x80 => extM x79 x80)).bind fun x93 => some ((eV eD) x93))).bind fun x99 => ((((((((some v_value)).bind fun x81 => asV x81)).bind fun x82 => some x82.reverse)).bind fun x94 => some ((eV eD) x94))).bind fun x100 => ((((((((some v_value)).bind fun x83 => asV x83)).bind fun x84 => some x84)).bind fun x95 => some ((eL eD) x95))).bind fun x101 => ((((((((some v_value)).bind fun x86 => asV x86)).bind fun x89 => ((((((some (0 : Int))).bind fun x87 => some (eI x87))).bind fun x88 => some [x88])).bind fun x90 => extM x89 x90)).bind fun x96 => some ((eV eD) x96))).bind fun x102 => some [x97, x98, x99, x100, x101, x102])).bind fun x103 => ((some x15)).bind fun x104 => atT x103 x104)) t_law_odd))))) (bP (bP (lP (((((some v_value)).bind fun x106 => asV x106)).bind fun x107 => some (x107.length : Int))) fun x108 => (t_law_draw x108)) fun x105 => (bP (bP (bP (lP (((((some v_value)).bind fun x109 => asV x109)).bind fun x111 => ((some none)).bind fun x112 => ((((some x105)).bind fun x110 => some (some x110))).bind fun x113 => some (cutT x111 x112 x113))) fun x122 => (bP (bP (bP (lP (((((some v_value)).bind fun x114 => asV x114)).bind fun x115 => ((some x105)).bind fun x116 => atT x115 x116)) fun x119 => (bP (lP (((some v_depth)).bind fun x117 => ((some (1 : Int))).bind fun x118 => some (x117 - x118))) fun x120 => (t_law_bent n x119 x120))) fun x121 => (lP (some [x121]))) fun x123 => (lP (extM x122 x123)))) fun x131 => (bP (lP (((((some v_value)).bind fun x124 => asV x124)).bind fun x128 => ((((((some x105)).bind fun x125 => ((some (1 : Int))).bind fun x126 => some (x125 + x126))).bind fun x127 => some (some x127))).bind fun x129 => ((some none)).bind fun x130 => some (cutT x128 x129 x130))) fun x132 => (lP (extM x131 x132)))) fun x133 => (lP (some ((eV eD) x133)))))))
def t_law_is_tuple (v_value : D) (v_many : Int) : Option Bool :=
  (((((some v_value)).bind fun x5 => isiT "tuple" x5)).bind fun x6 => cond x6 (((((((some v_value)).bind fun x1 => asV x1)).bind fun x2 => some (x2.length : Int))).bind fun x3 => ((some v_many)).bind fun x4 => some (decide (x3 = x4))) (some false))
end TM
set_option Elab.async false
set_option linter.all false
set_option maxRecDepth 100000
set_option maxHeartbeats 4000000
namespace TM
open PySem PySem.Spec PyProof.Rows L2 MS
mutual
def anyD (B : Nat) : D → Bool
  | .non => true
  | .bl _ => true
  | .int i => decide (i.natAbs ≤ B)
  | .str _ => true
  | .tup ds => anyA B ds
  | .lst ds => anyA B ds
  | .dk ks ds => ks.isEmpty && ds.isEmpty
  | _ => false
def anyA (B : Nat) : List D → Bool
  | [] => true
  | d :: ds => anyD B d && anyA B ds
end
mutual
def wD : D → Nat
  | .str x => (reprText x).length
  | .tup ds => wA ds + 3
  | .lst ds => wA ds + 3
  | _ => 42
def wA : List D → Nat
  | [] => 0
  | d :: ds => wD d + 2 + wA ds
end
mutual
def dD : D → Nat
  | .tup ds => dA ds + 1
  | .lst ds => dA ds + 1
  | .dk _ _ => 1
  | _ => 0
def dA : List D → Nat
  | [] => 0
  | d :: ds => max (dD d) (dA ds)
end
mutual
def pyOf : D → PyData
  | .bl b => .bool b
  | .int i => .int i
  | .str x => .str x
  | .tup ds => .tuple (pyA ds)
  | .lst ds => .list (pyA ds)
  | .dk _ _ => .dict []
  | _ => .none
def pyA : List D → List PyData
  | [] => []
  | d :: ds => pyOf d :: pyA ds
end
theorem anyA_mem {B : Nat} : ∀ {ds : List D}, anyA B ds = true ↔ ∀ d ∈ ds, anyD B d = true
  | [] => ⟨fun _ _ z => (nomatch z), fun _ => rfl⟩
  | d :: ds => by
    unfold anyA
    rw [Bool.and_eq_true, anyA_mem (ds := ds)]
    exact ⟨fun h x hx => (List.mem_cons.mp hx).elim (fun e => e ▸ h.1) (h.2 x), fun h => ⟨h d (List.mem_cons_self ..), fun x hx => h x (List.mem_cons_of_mem _ hx)⟩⟩
mutual
theorem anyD_mono {B C : Nat} (h : B ≤ C) : ∀ d : D, anyD B d = true → anyD C d = true
  | .non, _ => rfl
  | .bl _, _ => rfl
  | .int i, e => decide_eq_true (Nat.le_trans (of_decide_eq_true e) h)
  | .str _, _ => rfl
  | .tup ds, e => anyA_mono h ds e
  | .lst ds, e => anyA_mono h ds e
  | .dk _ _, e => e
  | .lr _, e => nomatch e
  | .fl _, e => nomatch e
  | .dt _ _, e => nomatch e
  | .ins _ _ _, e => nomatch e
  | .fn _, e => nomatch e
theorem anyA_mono {B C : Nat} (h : B ≤ C) : ∀ ds : List D, anyA B ds = true → anyA C ds = true
  | [], _ => rfl
  | d :: ds, e => by
    have e : (anyD B d && anyA B ds) = true := e
    obtain ⟨a, b⟩ := Bool.and_eq_true_iff.mp e
    show (anyD C d && anyA C ds) = true
    rw [anyD_mono h d a, anyA_mono h ds b]; rfl
end
theorem dA_le {n : Nat} : ∀ {ds : List D}, dA ds ≤ n ↔ ∀ d ∈ ds, dD d ≤ n
  | [] => ⟨fun _ _ z => (nomatch z), fun _ => Nat.zero_le _⟩
  | d :: ds => by
    show max (dD d) (dA ds) ≤ n ↔ _
    rw [Nat.max_le, dA_le (ds := ds)]
    exact ⟨fun h x hx => (List.mem_cons.mp hx).elim (fun e => e ▸ h.1) (h.2 x), fun h => ⟨h d (List.mem_cons_self ..), fun x hx => h x (List.mem_cons_of_mem _ hx)⟩⟩
theorem toPyX_all {n : Nat} : ∀ (ds : List D), (∀ d ∈ ds, toPyX [] n d = some (pyOf d)) → ds.mapM (toPyX [] n) = some (pyA ds)
  | [], _ => by rw [List.mapM_nil]; rfl
  | d :: ds, h => by
    rw [List.mapM_cons, h d (List.mem_cons_self ..)]
    show (ds.mapM (toPyX [] n)).bind _ = _
    rw [toPyX_all ds fun x hx => h x (List.mem_cons_of_mem _ hx)]
    rfl
theorem toPyX_any {B : Nat} : ∀ (n : Nat) (d : D), anyD B d = true → dD d < n → toPyX [] n d = some (pyOf d) := by
  intro n
  induction n with
  | zero => intro d _ h; omega
  | succ n ih =>
    intro d a h
    cases d with
    | non => rfl
    | bl => rfl
    | int => rfl
    | str => rfl
    | tup ds =>
      have h : dA ds + 1 < n + 1 := h
      show (ds.mapM (toPyX [] n)).map PyData.tuple = _
      rw [toPyX_all ds fun x hx => ih x (anyA_mem.mp a x hx) (by have := dA_le.mp (Nat.le_refl (dA ds)) x hx; omega)]
      rfl
    | lst ds =>
      have h : dA ds + 1 < n + 1 := h
      show (ds.mapM (toPyX [] n)).map PyData.list = _
      rw [toPyX_all ds fun x hx => ih x (anyA_mem.mp a x hx) (by have := dA_le.mp (Nat.le_refl (dA ds)) x hx; omega)]
      rfl
    | dk ks ds =>
      have a : (ks.isEmpty && ds.isEmpty) = true := a
      cases ks with
      | nil => cases ds with
        | nil => rfl
        | cons => cases a
      | cons => cases a
    | lr => cases a
    | fl => cases a
    | dt => cases a
    | ins => cases a
    | fn => cases a
mutual
theorem py_ok {B : Nat} (hB : B < 10 ^ 40) : ∀ d : D, anyD B d = true → (pyOf d).showable = true ∧ (pyOf d).depth ≤ dD d ∧ (pyOf d).shown.length ≤ wD d
  | .non, _ => ⟨rfl, Nat.le_refl _, by decide⟩
  | .bl b, _ => ⟨rfl, Nat.le_refl _, by cases b <;> decide⟩
  | .int i, a => by
    have a : i.natAbs ≤ B := of_decide_eq_true a
    have h' : i.natAbs < 10 ^ 40 := Nat.lt_of_le_of_lt a hB
    refine ⟨decide_eq_true ?_, Nat.le_refl _, ?_⟩
    · have := log2_lt (k := 1910) (Nat.lt_trans h' (by decide +kernel)) (by decide)
      omega
    · have := int_text_length_le10 (a := i) (k := 40) (by decide) h'
      show ((toString i : String) : Str).length ≤ 42
      rw [PySem.ofString_length]
      omega
  | .str x, _ => ⟨rfl, Nat.le_refl _, Nat.le_refl _⟩
  | .tup ds, a => by
    obtain ⟨h1, h2, h3⟩ := pyA_ok hB ds a
    refine ⟨h1, ?_, ?_⟩
    · show PyData.depthAll (pyA ds) + 1 ≤ dA ds + 1; omega
    · have := tupleText_le (PyData.shownAll (pyA ds))
      show (tupleText (PyData.shownAll (pyA ds))).length ≤ wA ds + 3
      omega
  | .lst ds, a => by
    obtain ⟨h1, h2, h3⟩ := pyA_ok hB ds a
    refine ⟨h1, ?_, ?_⟩
    · show PyData.depthAll (pyA ds) + 1 ≤ dA ds + 1; omega
    · have := listText_le (PyData.shownAll (pyA ds))
      show (listText (PyData.shownAll (pyA ds))).length ≤ wA ds + 3
      omega
  | .dk _ _, _ => ⟨rfl, Nat.le_refl _, by show (dictText []).length ≤ 42; decide +kernel⟩
  | .lr _, e => nomatch e
  | .fl _, e => nomatch e
  | .dt _ _, e => nomatch e
  | .ins _ _ _, e => nomatch e
  | .fn _, e => nomatch e
theorem pyA_ok {B : Nat} (hB : B < 10 ^ 40) : ∀ ds : List D, anyA B ds = true → PyData.showableAll (pyA ds) = true ∧ PyData.depthAll (pyA ds) ≤ dA ds ∧ piled (PyData.shownAll (pyA ds)) ≤ wA ds
  | [], _ => ⟨rfl, Nat.le_refl _, Nat.le_refl _⟩
  | d :: ds, e => by
    have e : (anyD B d && anyA B ds) = true := e
    obtain ⟨a, b⟩ := Bool.and_eq_true_iff.mp e
    obtain ⟨h1, h2, h3⟩ := py_ok hB d a
    obtain ⟨k1, k2, k3⟩ := pyA_ok hB ds b
    refine ⟨?_, ?_, ?_⟩
    · show ((pyOf d).showable && PyData.showableAll (pyA ds)) = true
      rw [h1, k1]; rfl
    · show max (pyOf d).depth (PyData.depthAll (pyA ds)) ≤ max (dD d) (dA ds)
      omega
    · show piled ((pyOf d).shown :: PyData.shownAll (pyA ds)) ≤ wD d + 2 + wA ds
      rw [piled_cons]
      omega
end
structure An (B w m : Nat) (d : D) : Prop where
  any : anyD B d = true
  wt : wD d ≤ w
  dp : dD d ≤ m
theorem An.mono {B w m B' w' m' : Nat} {d : D} (h : An B w m d) (h1 : B ≤ B') (h2 : w ≤ w') (h3 : m ≤ m') : An B' w' m' d := ⟨anyD_mono h1 d h.any, Nat.le_trans h.wt h2, Nat.le_trans h.dp h3⟩
theorem reprD_eq {B w m : Nat} {d : D} (h : An B w m d) (hB : B < 10 ^ 40) (hw : w ≤ 16777216) (hm : m ≤ 60) : reprD d = some (pyOf d).shown := by
  obtain ⟨h1, h2, h3⟩ := py_ok hB d h.any
  have hd := h.dp
  have hwt := h.wt
  unfold reprD
  rw [toPyX_any 64 d h.any (by omega)]
  show cond (okShowX (pyOf d)) _ _ = _
  have : okShowX (pyOf d) = true := by
    unfold okShowX
    rw [h1, decide_eq_true (show (pyOf d).depth ≤ 64 by omega), decide_eq_true (show (pyOf d).shown.length ≤ szl by unfold szl; omega)]
    rfl
  rw [this]
  rfl
theorem An.int {B : Nat} {i : Int} (h : i.natAbs ≤ B) : An B 42 0 (.int i) := ⟨decide_eq_true h, Nat.le_refl _, Nat.le_refl _⟩
theorem wA_le {k : Nat} : ∀ {ds : List D}, (∀ d ∈ ds, wD d ≤ k) → wA ds ≤ ds.length * (k + 2)
  | [], _ => Nat.zero_le _
  | d :: ds, h => by
    have := wA_le (ds := ds) fun x hx => h x (List.mem_cons_of_mem _ hx)
    have h1 := h d (List.mem_cons_self ..)
    show wD d + 2 + wA ds ≤ (ds.length + 1) * (k + 2)
    rw [Nat.succ_mul]; omega
theorem An.tup {B k m n : Nat} {ds : List D} (h : ∀ d ∈ ds, An B k m d) (hn : ds.length ≤ n) : An B (n * (k + 2) + 3) (m + 1) (.tup ds) :=
  ⟨anyA_mem.mpr fun d hd => (h d hd).any, by
    have := wA_le fun d hd => (h d hd).wt
    have h2 := Nat.mul_le_mul_right (k + 2) hn
    show wA ds + 3 ≤ _; omega, Nat.succ_le_succ (dA_le.mpr fun d hd => (h d hd).dp)⟩
theorem mem_cut {α : Type} {ds : List α} {a b : Option Int} : ∀ x ∈ cutT ds a b, x ∈ ds := fun x hx => List.mem_of_mem_drop (List.mem_of_mem_take hx)
theorem cut_to {α : Type} {ds : List α} {k : Nat} : cutT ds none (some (k : Int)) = ds.take k := by
  unfold cutT
  rw [HT.sIx_none, HT.sIx_nat, List.drop_zero, Nat.sub_zero]
  rcases Nat.le_total k ds.length with h | h
  · rw [Nat.min_eq_left h]
  · rw [Nat.min_eq_right h, List.take_length, List.take_of_length_le h]
theorem cut_from {α : Type} {ds : List α} {k : Nat} (h : k ≤ ds.length) : cutT ds (some (k : Int)) none = ds.drop k := by
  unfold cutT
  rw [HT.sIx_none, HT.sIx_nat, Nat.min_eq_left h]
  exact List.take_of_length_le (by rw [List.length_drop]; omega)
end TM
set_option Elab.async false
set_option linter.all false
set_option maxRecDepth 100000
set_option maxHeartbeats 4000000
namespace TM
open PySem PySem.Spec PyProof.Rows L2 MS
local macro_rules | `(tactic| walk_at "st") => `(tactic| first
  | with_reducible refine wp_b ?_ | with_reducible refine wp_l ?_ | with_reducible refine wo_b ?_ | with_reducible refine wo_some ?_)
theorem cutT_len {α : Type} {xs : List α} {a b : Option Int} : (cutT xs a b).length ≤ xs.length := by
  unfold cutT
  rw [List.length_take, List.length_drop]
  omega
end TM
set_option Elab.async false
set_option linter.all false
set_option maxRecDepth 100000
set_option maxHeartbeats 4000000
namespace TM
open PySem PySem.Spec PyProof.Rows L2 MS
def eqS : D → Str → Option Bool
  | .str s, x => some (decide (s = x))
  | .tup _, _ => some false
  | .lst _, _ => some false
  | .dk [] [], _ => some false
  | .int _, x => cond (PyData.strOk x) (some false) none
  | .bl _, x => cond (PyData.strOk x) (some false) none
  | .non, x => cond (PyData.strOk x) (some false) none
  | _, _ => none
theorem op_eqDS : Op2 fEqS eD eS eB eqS := fun a b c S e => by
  unfold eqS at e
  split at e
  all_goals first
    | (cases e; done)
    | (cases e; rfl)
    | (cases k : PyData.strOk b <;> rw [k] at e <;> cases e; simp [fEqS, fEq, fEqG, toPy, SeqAt.shaped, PyData.eqv, PyData.canLay0, PyData.depth, eD, eS, eB, k])
theorem op_neDS : Op2 fNeS eD eS eB (fun x y => (eqS x y).map not) := fun a b c S e => by
  obtain ⟨k, e1, e2⟩ := Option.map_eq_some_iff.mp e
  subst e2
  unfold eqS at e1
  split at e1
  all_goals first
    | (cases e1; done)
    | (cases e1; rfl)
    | (cases h : PyData.strOk b <;> rw [h] at e1 <;> cases e1; simp [fNeS, fNe, fEqG, toPy, SeqAt.shaped, PyData.eqv, PyData.canLay0, PyData.depth, eD, eS, eB, h])
section
variable {α : Type} {S0 : Store} {sl : List Sl} {m : MExp} {A : α → D}
theorem xe_isNotND {t : Option D} (h : XE S0 sl m t eD) : XE S0 sl (mBin fIsNot m (mC .non)) (t.bind fun x => some (!x.isNon)) eB := fun ρ S s c e => by
  obtain ⟨a, e1, e⟩ := bnd e
  cases e
  obtain ⟨S1, q1, a1⟩ := h ρ S s a e1
  refine ⟨S1, ?_, a1⟩
  unfold mBin
  rw [q1]
  rfl
theorem lc_run {β : Type} {B : β → D} {g : MTg} {c : MTst} {e : MExp} {vs : List Nat} {tc : α → Option Bool} {te : α → Option β} {slg : α → List Sl} (hg : ∀ a, XG S0 (wipeS sl vs) g (A a) (slg a)) (hc : ∀ a, XT S0 (slg a) c (tc a)) (he : ∀ a, XE S0 (slg a) e (te a) B)
    {ok : Store → Bool} {ρ : Ev} {S1 : Store} (s0 : Sx S0 sl ρ S1) (hok : ∀ T, All S1 T → ok T = true) {xs : List α} {ys : List β} (hz : xs.length ≤ szl) (eq : compGo tc te xs = some ys) :
    ∃ T, lcL ok g c e (wipeD ρ vs) S1.length (xs.map A) (S1 ++ [.lst []]) = some T ∧ All S1 T ∧ T[S1.length]? = some (.lst (ys.map B)) := by
  have s1 := s0.wipe vs
  have go : ∀ (xs : List α) (ys acc : List β) (T : Store), All S1 T → T[S1.length]? = some (.lst (acc.map B)) → acc.length + xs.length ≤ szl → compGo tc te xs = some ys →
      ∃ T', lcL ok g c e (wipeD ρ vs) S1.length (xs.map A) T = some T' ∧ All S1 T' ∧ T'[S1.length]? = some (.lst ((acc ++ ys).map B)) := by
    intro xs
    induction xs with
    | nil => intro ys acc T a h hz eq; cases eq; exact ⟨T, (by show (if ok T = true then some T else none) = _; rw [if_pos (hok T a)]), a, by rw [List.append_nil]; exact h⟩
    | cons x xs ih =>
      intro ys acc T a h hz eq
      obtain ⟨k, e2, eq⟩ := bnd eq
      obtain ⟨ρ1, q1, k1⟩ := hg x (wipeD ρ vs) T (s1.grow a)
      obtain ⟨T2, q2, a2⟩ := hc x ρ1 T k1 k e2
      have hl : acc.length + (xs.length + 1) ≤ szl := hz
      have un : lcL ok g c e (wipeD ρ vs) S1.length ((x :: xs).map A) T = (if k = true then (e ρ1 T2).bind fun y => (mat y.2 S1.length).bind fun acc =>
          if acc.length < szl then lcL ok g c e (wipeD ρ vs) S1.length (xs.map A) (y.2.set S1.length (.lst (acc ++ [y.1]))) else none
        else lcL ok g c e (wipeD ρ vs) S1.length (xs.map A) T2) := by
        show (if ok T = true then (g (A x) (wipeD ρ vs) T).bind fun p => (c p.1 p.2).bind fun k => if k.1 then (e p.1 k.2).bind fun y => (mat y.2 S1.length).bind fun acc =>
            if acc.length < szl then lcL ok g c e (wipeD ρ vs) S1.length (xs.map A) (y.2.set S1.length (.lst (acc ++ [y.1]))) else none
          else lcL ok g c e (wipeD ρ vs) S1.length (xs.map A) k.2 else none) = _
        rw [if_pos (hok T a), q1]
        show ((c ρ1 T).bind fun k => if k.1 then (e ρ1 k.2).bind fun y => (mat y.2 S1.length).bind fun acc =>
            if acc.length < szl then lcL ok g c e (wipeD ρ vs) S1.length (xs.map A) (y.2.set S1.length (.lst (acc ++ [y.1]))) else none
          else lcL ok g c e (wipeD ρ vs) S1.length (xs.map A) k.2) = _
        rw [q2]
        rfl
      cases k with
      | true =>
        obtain ⟨y, e3, eq⟩ := bnd eq
        obtain ⟨zs, e4, eq⟩ := bnd eq
        cases eq
        obtain ⟨T3, q3, a3⟩ := he x ρ1 T2 (k1.grow a2) y e3
        have h3 := a3 _ _ (a2 _ _ h)
        obtain ⟨T4, q4, a4, h4⟩ := ih zs (acc ++ [y]) (T3.set S1.length (.lst ((acc ++ [y]).map B))) (((a.trans a2).trans a3).wr (Nat.le_refl _)) (get_set h3) (by rw [List.length_append, List.length_singleton]; omega) e4
        refine ⟨T4, ?_, a4, by rw [h4, List.append_assoc]; rfl⟩
        rw [un, if_pos rfl, q3]
        show ((mat T3 S1.length).bind fun acc => if acc.length < szl then lcL ok g c e (wipeD ρ vs) S1.length (xs.map A) (T3.set S1.length (.lst (acc ++ [B y]))) else none) = _
        rw [mat_lst h3]
        show (if (acc.map B).length < szl then lcL ok g c e (wipeD ρ vs) S1.length (xs.map A) (T3.set S1.length (.lst (acc.map B ++ [B y]))) else none) = _
        rw [List.length_map, if_pos (by omega)]
        rw [List.map_append] at q4
        exact q4
      | false =>
        obtain ⟨T4, q4, a4, h4⟩ := ih ys acc T2 (a.trans a2) (a2 _ _ h) (by omega) eq
        exact ⟨T4, by rw [un]; exact q4, a4, h4⟩
  obtain ⟨T, q2, a2, h2⟩ := go xs ys [] (S1 ++ [.lst []]) .app get_new (by rw [List.length_nil, Nat.zero_add]; exact hz) eq
  exact ⟨T, q2, a2, h2⟩
theorem xo_lc {β : Type} {B : β → D} {i : MItr} {g : MTg} {c : MTst} {e : MExp} {vs : List Nat} {ti : Option (List α)} {tc : α → Option Bool} {te : α → Option β} {slg : α → List Sl} (hi : XI S0 sl i ti A) (hg : ∀ a, XG S0 (wipeS sl vs) g (A a) (slg a)) (hc : ∀ a, XT S0 (slg a) c (tc a)) (he : ∀ a, XE S0 (slg a) e (te a) B) :
    XO S0 sl (mLc i g c e vs) (ti.bind fun xs => compM tc te xs) B := fun ρ S s ys eq => by
  obtain ⟨xs, e1, eq⟩ := bnd eq
  obtain ⟨hz, eq⟩ := compM_some eq
  obtain ⟨S1, q, a1⟩ := hi ρ S s xs e1
  obtain ⟨T, q2, a2, h2⟩ := lc_run hg hc he (s.grow a1) (ok := always) (fun _ _ => rfl) hz eq
  refine ⟨S1.length, T, ?_, a1.trans a2, All.len a1, h2⟩
  unfold mLc
  rw [q]
  show ((lcL always g c e (wipeD ρ vs) S1.length (xs.map A) (S1 ++ [.lst []])).bind fun S2 => some (D.lr S1.length, S2)) = _
  rw [q2]
  rfl
theorem xo_lcO {β : Type} {B : β → D} {i : Nat} {g : MTg} {c : MTst} {e : MExp} {vs : List Nat} {xs : List α} {tc : α → Option Bool} {te : α → Option β} {slg : α → List Sl} (h : sl[i]? = some (.own (xs.map A))) (hg : ∀ a, XG S0 (wipeS sl vs) g (A a) (slg a)) (hc : ∀ a, XT S0 (slg a) c (tc a)) (he : ∀ a, XE S0 (slg a) e (te a) B) :
    XO S0 sl (mLc (mItems (mVar i)) g c e vs) (compM tc te xs) B := fun ρ S s ys eq => by
  obtain ⟨hz, eq⟩ := compM_some eq
  obtain ⟨n, k1, k2, k3⟩ := s.own i _ h
  have hok : ∀ T, All S T → still n (xs.map A) T = true := fun T a => by
    unfold still
    rw [lat_lst (a _ _ k2)]
    exact D.sameA_refl _
  obtain ⟨T, q2, a2, h2⟩ := lc_run hg hc he s hok hz eq
  refine ⟨S.length, T, ?_, a2, Nat.le_refl _, h2⟩
  have q : mItems (mVar i) ρ S = some ((xs.map A, still n (xs.map A)), S) := by
    unfold mItems mVar
    rw [k1]
    show ((lat S n).bind fun ds => some ((ds, still n ds), S)) = _
    rw [lat_lst k2]
    rfl
  unfold mLc
  rw [q]
  show ((lcL (still n (xs.map A)) g c e (wipeD ρ vs) S.length (xs.map A) (S ++ [.lst []])).bind fun S2 => some (D.lr S.length, S2)) = _
  rw [q2]
  rfl
end
end TM
set_option Elab.async false
set_option linter.all false
set_option maxRecDepth 100000
set_option maxHeartbeats 4000000
namespace TM
open PySem PySem.Spec PyProof.Rows L2 MS
section
variable {α β γ : Type} {S0 : Store} {p : Nat} {sl : List Sl} {m mi : MExp} {A : α → D} {t : PM α}
end
end TM
set_option Elab.async false
set_option linter.all false
set_option maxRecDepth 100000
set_option maxHeartbeats 4000000
namespace TM
open PySem PySem.Spec PyProof.Rows L2 MS
section
variable {α β γ : Type} {S0 : Store} {sl : List Sl} {m1 m2 m3 : MExp}
end
end TM
set_option Elab.async false
set_option linter.all false
set_option maxRecDepth 100000
set_option maxHeartbeats 4000000
namespace TM
open PySem PySem.Spec PyProof.Rows L2 MS
end TM
set_option Elab.async false
set_option linter.all false
set_option maxRecDepth 100000
set_option maxHeartbeats 4000000
namespace TM
open PySem PySem.Spec PyProof.Rows L2 MS
section
variable {S0 : Store} {sl : List Sl} {α β : Type} {A : β → D}
end
end TM
set_option Elab.async false
set_option linter.all false
set_option maxRecDepth 100000
set_option maxHeartbeats 4000000
namespace TM
open PySem PySem.Spec PyProof.Rows L2 MS
section
variable {α β : Type} {A : α → D} {B : β → D}
def mapO (f : D → Option α) : List D → Option (List α)
  | [] => some []
  | d :: ds => (f d).bind fun a => (mapO f ds).bind fun as => some (a :: as)
def asVo (f : D → Option α) (d : D) : Option (List α) := (asV d).bind fun ds => mapO f ds
def asT2o (f : D → Option α) (g : D → Option β) (d : D) : Option (α × β) := (asT2 d).bind fun p => (f p.1).bind fun a => (g p.2).bind fun b => some (a, b)
theorem mapO_eq {f : D → Option α} (hf : ∀ d b, f d = some b → d = A b) : ∀ {ds : List D} {bs : List α}, mapO f ds = some bs → ds = bs.map A
  | [], _, e => by cases e; rfl
  | d :: ds, _, e => by
    obtain ⟨a, e1, e⟩ := Option.bind_eq_some_iff.mp (show ((f d).bind fun a => (mapO f ds).bind fun as => some (a :: as)) = _ from e)
    obtain ⟨as, e2, e⟩ := Option.bind_eq_some_iff.mp e
    cases e
    rw [hf d a e1, mapO_eq hf e2]
    rfl
theorem as_Vo {f : D → Option α} (hf : ∀ d b, f d = some b → d = A b) : ∀ d b, asVo f d = some b → d = eV A b := fun d b e => by
  obtain ⟨ds, e1, e2⟩ := Option.bind_eq_some_iff.mp e
  rw [as_V d ds e1]
  show D.tup (ds.map eD) = _
  rw [show ds.map eD = ds from List.map_id ds, mapO_eq hf e2]
theorem as_T2o {f : D → Option α} {g : D → Option β} (hf : ∀ d b, f d = some b → d = A b) (hg : ∀ d b, g d = some b → d = B b) : ∀ d b, asT2o f g d = some b → d = eT2 A B b := fun d b e => by
  obtain ⟨p, e1, e⟩ := Option.bind_eq_some_iff.mp e
  obtain ⟨a, e2, e⟩ := Option.bind_eq_some_iff.mp e
  obtain ⟨c, e3, e⟩ := Option.bind_eq_some_iff.mp e
  cases e
  rw [as_T2 d p e1]
  show D.tup [p.1, p.2] = D.tup [A a, B c]
  rw [hf _ _ e2, hg _ _ e3]
end
end TM
set_option Elab.async false
set_option linter.all false
set_option maxRecDepth 100000
set_option maxHeartbeats 4000000
namespace TM
open PySem PySem.Spec PyProof.Rows L2 MS
section
variable {S0 : Store} {sl : List Sl} {m : MExp}
def sortSV (xs : List Int) : Option (List Int) := cond (Nat.blt xs.length 64) (some (sortU xs)) none
end
end TM
set_option Elab.async false
set_option linter.all false
set_option maxRecDepth 100000
set_option maxHeartbeats 4000000
namespace TM
open PySem PySem.Spec PyProof.Rows L2 MS
section
variable {α β β' γ : Type} {S0 : Store} {sl : List Sl} {A : α → D} {B : β → D} {B' : β' → D} {C : γ → D} {da : Nat} [DecidableEq α]
theorem any_eq {f : Fa A da} {a : α} : ∀ {xs : List α}, ((xs.map f.py).any fun z => PyData.eqv z (f.py a)) = decide (a ∈ xs)
  | [] => rfl
  | x :: xs => by
    rw [List.map_cons, List.any_cons, any_eq, f.eq]
    by_cases h : x = a
    · subst h
      rw [decide_eq_true rfl, decide_eq_true (List.mem_cons_self ..)]; rfl
    · rw [decide_eq_false h]
      by_cases m : a ∈ xs
      · rw [decide_eq_true m, decide_eq_true (List.mem_cons_of_mem _ m)]; rfl
      · rw [decide_eq_false m, decide_eq_false fun q => m ((List.mem_cons.mp q).resolve_left fun e => h e.symm)]; rfl
end
end TM
set_option Elab.async false
set_option linter.all false
set_option maxRecDepth 100000
set_option maxHeartbeats 4000000
namespace MS
open PySem PySem.Spec PyProof.Rows L2
section
variable {X : Cx} {i k : Nat} {x tn : Str} {T : Addr} {es : Array DictEntry} {n : Nat} {ke e tg : Expr} {as : List Expr} {mk : MExp} {ma : MArg} {tab : List (Str × DCall)} {g : MTg} {m' : MStm} {rest : List Stmt} {px pn p1 p2 p3 p4 p5 : Pos}
end
end MS
set_option Elab.async false
set_option linter.all false
set_option maxRecDepth 100000
set_option maxHeartbeats 4000000
namespace TM
open PySem PySem.Spec PyProof.Rows L2 MS
section
variable {S0 S S' : Store} {p : Nat} {sl : List Sl} {α β γ σ τ : Type} {A : α → D} {B : β → D} {m m1 m2 : MExp} {r : MStm}
end
end TM
set_option Elab.async false
set_option linter.all false
set_option maxRecDepth 100000
set_option maxHeartbeats 4000000
namespace MS
open PySem PySem.Spec PyProof.Rows L2
section
variable {K : PySem.W.Frag} {H H1 : Hp} {μ μ1 : Mu} {S S2 : Store} {a : Addr} {od : Obj} {kws : List (Key × V)}
def Mu.live (μ : Mu) (a : Addr) : Mu := { μ with lv := a :: μ.lv }
theorem out_live {b : Addr} (h : b ∉ μ.lv) (n : b ≠ a) : b ∉ (μ.live a).lv := fun z => (List.mem_cons.mp z).elim n h
theorem Grow.lock (g : Grow (upd H a (.frz od (.dK kws))) H1 μ μ1) (hH : H a = some (.dK kws)) (hl : a ∈ μ.lv) : Grow H (upd H1 a (.dK kws)) μ (μ1.live a) := by
  have ne : ∀ {b : Addr} {o : HO}, H b = some o → o ≠ .dK kws → b ≠ a := fun e h z => by
    subst z
    rw [hH] at e
    exact h (Option.some.inj e).symm
  refine ⟨fun b xs e => ?_, fun b o u e => ?_, fun b φ e => ?_, g.pre, fun b o m n e => ?_, fun b z => ?_, fun b e => ?_⟩
  · have h := ne e (fun z => nomatch z)
    rw [upd_ne h]
    exact g.tups b xs (by rw [upd_ne h]; exact e)
  · have h := ne e (fun z => nomatch z)
    rw [upd_ne h]
    exact g.frzs b o u (by rw [upd_ne h]; exact e)
  · have h := ne e (fun z => nomatch z)
    rw [upd_ne h]
    exact g.exts b φ (by rw [upd_ne h]; exact e)
  · have h : b ≠ a := fun z => n (z ▸ hl)
    rw [upd_ne h]
    exact g.muts b o m n (by rw [upd_ne h]; exact e)
  · rcases List.mem_cons.mp z with rfl | z
    · exact .inl hl
    rcases g.fresh b z with z | z
    · exact .inl z
    · exact .inr (upd_alive z)
  · exact upd_alive (g.alive b (upd_alive e))
theorem ne_frz {b : Addr} {o : HO} (h0 : H1 a = some (.frz od (.dK kws))) (e : H1 b = some o) (n : o ≠ .frz od (.dK kws)) : b ≠ a := fun z => by
  subst z
  rw [h0] at e
  exact n (Option.some.inj e).symm
mutual
theorem Rp.unlock (h0 : H1 a = some (.frz od (.dK kws))) : ∀ {d : D} {v : V}, Rp K H1 μ v d → Rp K (upd H1 a (.dK kws)) (μ.live a) v d
  | .non, _, h => by cases h; exact .non
  | .bl _, _, h => by cases h; exact .bl _
  | .int _, _, h => by cases h; exact .int _
  | .str _, _, h => by cases h; exact .str _
  | .tup _, _, h => by
    cases h with
    | tup h1 h2 => exact .tup (h1.imp (fun e => by rw [upd_ne fun z => by (subst z; rw [h0] at e; cases e)]; exact e) id) (RpA.unlock h0 h2)
  | .lr _, _, h => by
    cases h with
    | lr h1 => exact .lr h1
  | .lst _, _, h => by
    cases h with
    | lst h1 h2 =>
      have ne := ne_frz h0 h1.1 (fun z => nomatch z)
      exact .lst ⟨by rw [upd_ne ne]; exact h1.1, out_live h1.2 ne⟩ (RpA.unlock h0 h2)
  | .fl _, _, h => by
    cases h with
    | fl h1 h2 => exact .fl (h1.imp (fun ⟨o, e⟩ => ⟨o, by rw [upd_ne fun z => by (subst z; rw [h0] at e; cases e)]; exact e⟩) id) (RpA.unlock h0 h2)
  | .dk _ _, _, h => by
    cases h with
    | dk h1 h2 h3 h4 =>
      have ne := ne_frz h0 h1 (fun z => nomatch z)
      exact .dk (by rw [upd_ne ne]; exact h1) (out_live h2 ne) h3 (RpA.unlock h0 h4)
  | .dt _ _, _, h => by
    cases h with
    | dt h1 h2 h3 h4 =>
      have ne := ne_frz h0 h1 (fun z => nomatch z)
      exact .dt (by rw [upd_ne ne]; exact h1) (out_live h2 ne) h3 (RpA.unlock h0 h4)
  | .ins _ _ _, _, h => by
    cases h with
    | ins h1 h2 h3 h4 =>
      have ne := ne_frz h0 h1 (fun z => nomatch z)
      exact .ins (by rw [upd_ne ne]; exact h1) (out_live h2 ne) h3 (RpA.unlock h0 h4)
  | .fn _, _, h => by cases h; exact .fn
theorem RpA.unlock (h0 : H1 a = some (.frz od (.dK kws))) : ∀ {ds : List D} {vs : List V}, RpA K H1 μ vs ds → RpA K (upd H1 a (.dK kws)) (μ.live a) vs ds
  | [], _, h => by cases h; exact .nil
  | _ :: _, _, h => by
    cases h with
    | cons h1 h2 => exact .cons (Rp.unlock h0 h1) (RpA.unlock h0 h2)
end
theorem MoR.unlock (h0 : H1 a = some (.frz od (.dK kws))) {mo : MO} {b : Addr} (h : MoR K H1 μ mo b) : MoR K (upd H1 a (.dK kws)) (μ.live a) mo b := by
  have go : ∀ {o : HO}, Mt o → H1 b = some o → upd H1 a (.dK kws) b = some o := fun m e => by
    rw [upd_ne fun z => by (subst z; rw [h0] at e; cases e; cases m)]
    exact e
  cases mo with
  | lst ds => obtain ⟨vs, h1, h2⟩ := h; exact ⟨vs, go (.lst _) h1, h2.unlock h0⟩
  | dk kvs => obtain ⟨kws', h1, h2⟩ := h; exact ⟨kws', go (.dk _) h1, h2.1, h2.2.unlock h0⟩
  | dt kvs => obtain ⟨kws', h1, h2⟩ := h; exact ⟨kws', go (.dt _) h1, h2.1, h2.2.unlock h0⟩
  | ins c kvs => obtain ⟨dx, kws', h1, h2⟩ := h; exact ⟨dx, kws', go (.ins _ _ _) h1, h2.1, h2.2.unlock h0⟩
  | gone => exact trivial
theorem StR.unlock {n : Nat} {y : MO} (s : StR K H1 μ1 S2) (e : S2[n]? = some .gone) (hn : μ1.h[n]? = some a) (h0 : H1 a = some (.frz od (.dK kws))) (r : MoR K (upd H1 a (.dK kws)) (μ1.live a) y a) : StR K (upd H1 a (.dK kws)) (μ1.live a) (S2.set n y) := by
  have hlt : n < S2.length := (List.getElem?_eq_some_iff.mp e).1
  have nota : ∀ {m : Nat} {x : MO}, S2[m]? = some x → x.mut = true → μ1.h[m]? = some a → False := fun q m q2 => by
    obtain ⟨o, mo, q3⟩ := (s.at_ _ _ _ q q2).mt m
    rw [h0] at q3
    cases q3
    cases mo
  refine ⟨by rw [List.length_set]; exact s.len, fun k m b z t q1 q2 m1 m2 q3 q4 => ?_, fun m mo b q1 q2 => ?_, fun b z q => (List.mem_cons.mp z).elim (fun e => by rw [e, upd_same] at q; cases q) (fun z => s.liv b z (upd_alive q)), fun m mo b q1 m1 q2 => ?_⟩
  · have q3 : μ1.h[k]? = some b := q3
    have q4 : μ1.h[m]? = some b := q4
    by_cases hk : n = k
    · subst hk
      rw [hn] at q3; cases q3
      by_cases hm : n = m
      · exact hm
      · rw [List.getElem?_set_ne hm] at q2
        exact (nota q2 m2 q4).elim
    · rw [List.getElem?_set_ne hk] at q1
      by_cases hm : n = m
      · subst hm
        rw [hn] at q4; cases q4
        exact (nota q1 m1 q3).elim
      · rw [List.getElem?_set_ne hm] at q2
        exact s.nd k m b z t q1 q2 m1 m2 q3 q4
  · have q2 : μ1.h[m]? = some b := q2
    by_cases hm : n = m
    · subst hm
      rw [List.getElem?_set_self hlt] at q1
      rw [hn] at q2
      cases q1; cases q2
      exact r
    · rw [List.getElem?_set_ne hm] at q1
      exact (s.at_ m mo b q1 q2).unlock h0
  · by_cases hm : n = m
    · subst hm
      have q2 : μ1.h[n]? = some b := q2
      rw [hn] at q2; cases q2
      exact List.mem_cons_self ..
    · rw [List.getElem?_set_ne hm] at q1
      exact List.mem_cons_of_mem _ (s.own m mo b q1 m1 q2)
theorem isIt_vals {H0 : Hp} {μ0 : Mu} {ds : List D} (h1 : H0 a = some (.frz od (.dK kws))) (h2 : RpA K H0 μ0 (kws.map (·.2)) ds) : IsIt K (Itd a od kws) H0 μ0 ds always where
  go := fun i H μ S g s h hi => by
    have := h2.length
    rw [List.length_map] at this
    exact (walk_values (d := a) (o := od) (kvs := kws)).goes i H (by omega) (g.frzs _ _ _ h1)
  stop := fun H μ S g s h => by
    have := h2.length
    rw [List.length_map] at this
    have q := (walk_values (d := a) (o := od) (kvs := kws)).stops H (g.frzs _ _ _ h1)
    rwa [this] at q
  yld := fun i H μ S x H' g s h y d hd => by
    obtain ⟨rfl, k, y⟩ := (walk_values (d := a) (o := od) (kvs := kws)).yields i H x H' (by
      have := h2.length
      rw [List.length_map] at this
      have := (List.getElem?_eq_some_iff.mp hd).1
      omega) (g.frzs _ _ _ h1) y
    obtain ⟨w, h3, h4⟩ := (h2.grow g).get hd
    rw [List.getElem?_map, y] at h3
    cases h3
    exact ⟨.refl, s, h4⟩
end
def mItK (ds : List D) : MItr := fun _ S => some ((ds, always), S)
def mValsLc (i : Nat) (g : MTg) (t : MTst) (e : MExp) (vs : List Nat) : MExp := fun ρ S => match ρ[i]? with
  | some (some (.lr n)) => match S[n]? with
    | some (.dk kvs) => cond (solidA (kvs.map (·.2))) ((mLc (mItK (kvs.map (·.2))) g t e vs ρ (S.set n .gone)).bind fun p => match p.2[n]? with
      | some .gone => some (p.1, p.2.set n (.dk kvs))
      | _ => none) none
    | _ => none
  | _ => none
theorem tLc_imp {wi wi' : TI} {g : TG} {tt : TT} {te : TE} {vs : List Nat} {σ : L2.St} {H : Hp} {Q : VK} (i : ∀ R, wi' σ H R → wi σ H R) (h : tLc wi' g tt te vs σ H Q) : tLc wi g tt te vs σ H Q := i _ h
section
variable {X : Cx} {elt tg : Expr} {ifs : List Expr} {scope : Scope} {own : List (Str × Nat)} {pos px ap cp : Pos} {x : Str} {j : Nat} {g : MTg} {t : MTst} {e : MExp} {is : List Nat}
end
end MS
set_option Elab.async false
set_option linter.all false
set_option maxRecDepth 100000
set_option maxHeartbeats 4000000
namespace MS
open PySem PySem.Spec PyProof.Rows L2
theorem ints_keys {X : Cx} : ∀ {ns : List Int} {vsd : List (Key × Value)} {us : List Value}, vsd.map (·.1) = ns.map Sum.inl → us.length = ns.length → (∀ (j : Nat) (v : Value), us[j]? = some v → ∃ k x, vsd[j]? = some (k, x) ∧ (mixKind X.prog X.w).is k v = true) → IntsAre us ns
  | [], _, [], _, _, _ => .nil
  | [], _, _ :: _, _, h, _ => nomatch h
  | _ :: _, _, [], _, h, _ => nomatch h
  | n :: ns, [], _ :: _, e, _, _ => nomatch e
  | n :: ns, p :: vsd, u :: us, e, h, q => by
    injection e with e1 e2
    obtain ⟨k, x, h1, h2⟩ := q 0 u rfl
    cases h1
    have e1 : k = Sum.inl n := e1
    subst e1
    rcases keyIs_shape (show keyIs (Sum.inl n) u = true from h2) with ⟨i, t, z, rfl⟩ | ⟨y, t, z, _⟩
    · cases z
      exact .cons n t (ints_keys (X := X) e2 (Nat.succ.inj h) fun j v hj => q (j + 1) v hj)
    · cases z
section
open PySem.Calls PyProof.V
def Gath (z0 : Shared) (Pk : Nat → Value → Prop) (n : Nat) (q : Result) (z : Shared) : Prop := ∃ (hp : Heap) (tk : Nat) (its : Array Value) (cnt : Nat),
  q = .ok (.ret (.ref z0.heap.objs.size)) ∧ z = { z0 with heap := hp, toks := tk } ∧ (∀ b o, z0.heap.get? b = some o → hp.get? b = some o) ∧
  hp.get? z0.heap.objs.size = some { cls := .type "list", dict := none, data := .seq its cnt, slots := #[] } ∧ ItemsOf Pk its n
theorem gather {prog : Program} {w : World} {A : Around} {E : Value → Shared → Prop} {z0 : Shared} {T : String} {x y : Addr} {n : Nat} {Pk : Nat → Value → Prop} {Ok : Heap → Prop} {R : List Value → Shared → Prop}
    (src : PySem.W.KdlSrc prog w T x y n Pk Ok) (calm : A.handled = none) (ok0 : Ok z0.heap) (few : n ≤ sizeLine)
    (fin : ∀ (hp : Heap) (tk : Nat) (its : Array Value), (∀ b o, z0.heap.get? b = some o → hp.get? b = some o) → z0.heap.objs.size < hp.objs.size → ItemsOf Pk its n → R its.toList { z0 with heap := hp, toks := tk }) :
    wpAny (model prog w) A (collect (.ref x)) R E z0 := by
  obtain ⟨lx, ly⟩ := src.there _ ok0
  have ends : ∀ (z : Shared) (q : Result), Gath z0 Pk n q z → ∃ v, q = .ok (.ret v) ∧ v = .ref z0.heap.objs.size ∧ ∃ (its : Array Value) (cnt : Nat), z.heap.get? z0.heap.objs.size = some { cls := .type "list", dict := none, data := .seq its cnt, slots := #[] } ∧ R its.toList z := by
    rintro z q ⟨hp, tk, its, cnt, rfl, rfl, k, at_, items⟩
    exact ⟨_, rfl, rfl, its, cnt, at_, fin hp tk its k (Heap.lt_size at_) items⟩
  unfold collect
  refine wpAny_bind (wpAny_runValue (codeAny_builtin (entry_proto_collect') ?_)); rw [Around.under_plainId (PySem.F.plain_proto_collect)]
  refine (show wpAny (model prog w) A.in1 (newList [] >>= fun l => again (.builtin "list.__iadd__" ⟨[l, .ref x], []⟩)) _ _ z0 from wpAny_bind (wpAny_newObj_type ?_))
  refine wpAny_pure ⟨plainId_quiet (PySem.F.plain_list_iadd) _, codeAny_builtin (entry_list_iadd') ?_⟩; rw [Around.under_plainId (PySem.F.plain_list_iadd)]
  have new : (z0.heap.push { cls := .type "list", data := .seq ([] : List Value).toArray }).get? z0.heap.objs.size = some { cls := .type "list", data := .seq #[] } := Heap.get?_push_size _ rfl
  have up : ∀ b o, z0.heap.get? b = some o → (z0.heap.push { cls := .type "list", data := .seq ([] : List Value).toArray }).get? b = some o := fun b o e => Heap.get?_push_of_some _ e
  have filled := PySem.W.kdl_extend (A := A) (R := Gath z0 Pk n) src calm (src.keep _ _ ok0 fun b _ o e => up b o e) z0.heap.objs.size (Nat.ne_of_gt lx) (Nat.ne_of_gt ly) (.ref z0.heap.objs.size) 0
    (s := { z0 with heap := z0.heap.push { cls := .type "list", data := .seq ([] : List Value).toArray } }) new
    (fun hp tk its cnt k at_ items => ⟨hp, tk, its, cnt, rfl, rfl, fun b o e => k b o (Nat.ne_of_lt (Heap.lt_size e)) (up b o e), at_, items⟩) few
  refine wpAny_mono filled (fun r z g => ?_) fun e z g => ?_
  · cases r with
    | done f =>
      obtain ⟨v, e1, e2, its, cnt, at_, last⟩ := ends z _ g
      cases e1
      cases e2
      exact wpAny_bind (wpAny_load at_ (wpAny_pure last))
    | again c =>
      refine ⟨g.1, codeAny_mono g.2 fun q z' g' => ?_⟩
      obtain ⟨v, rfl, rfl, its, cnt, at_, last⟩ := ends z' _ g'
      exact wpAny_bind (wpAny_load at_ (wpAny_pure last))
  · obtain ⟨_, _, _, _, z, _⟩ := g
    cases z
end
def rSortedDict : List V → Hp → VK → Prop := fun vs H Q => ∃ (a : Addr) (kws : List (Key × V)) (ns : List Int), vs = [V.ref a] ∧ H a = some (.dK kws) ∧ kws.map (·.1) = ns.map Sum.inl ∧ ns.length < 64 ∧
  ∀ p, H p = none → Q (.ref p) (upd H p (.lst ((sortI ns).map V.int)))
theorem kv_keys {kws : List (Key × V)} {vsd : List (Key × Value)} (r : KV kws vsd) : vsd.map (·.1) = kws.map (·.1) := by
  unfold KV at r
  induction r with
  | nil => rfl
  | cons h t ih => rw [List.map_cons, List.map_cons, ih, h.1]
theorem cr_sortedDict {X : Cx} (hc : X.calm = true) : CallR X (.builtin "sorted") rSortedDict := by
  intro pins s σ H vs us Q I r h
  obtain ⟨a, kws, ns, rfl, ha, hk, h64, q⟩ := h
  rw [Vals.ref1 r]
  obtain ⟨hz, lo, vsd, rel, dd⟩ := dk_of I.hok ha
  obtain ⟨ep, da⟩ := dd.dictAt
  have hkv := kv_keys rel
  have hl : vsd.length = ns.length := by
    have := congrArg List.length (hkv.trans hk)
    rwa [List.length_map, List.length_map] at this
  refine Calls.call_function_entry kind_sorted plain_sorted entry_sorted (args_sorted1 _) ?_
  unfold Builtin.«sorted»
  refine wpAny_bind (m := checkCount "sorted" 1 1 _) (wpAny_pure ?_)
  refine wpAny_bind (gather (A := X.A.in1) (PySem.W.kdl_dict (knd := mixKind X.prog X.w) lo) (I.ok.hd hc) da (by rw [hl, sizeLine_eq]; omega) fun h' tk acc k1 hsz hacc => ?_)
  have hvl : acc.toList.length = ns.length := by rw [Array.length_toList, hacc.1, hl]
  have hI : IntsAre acc.toList ns := ints_keys (X := X) (hkv.trans hk) hvl fun j v e => hacc.2 j v (by rw [← Array.getElem?_toList]; exact e)
  refine wpAny_bind (wpAny_newList ?_ (by rw [hvl, sizeLine_eq]; omega))
  have hoL : (h'.push (seqObj "list" acc.toList.toArray 0)).get? h'.objs.size = some (seqObj "list" acc.toList.toArray 0) := Heap.get?_push_size _ rfl
  refine wpAny_bind (wpAny_holding (wpAny_call_entry slot_list_sort ⟨_, hoL, rfl⟩ entry_list_sort (list_sort_tree hoL hI (by rw [hvl]; exact h64) fun out ns' a1 a2 a3 => ⟨_, rfl, ?_⟩) (args_list_sort _)))
  obtain ⟨c, hcc⟩ := sortedHeap_at (vs := acc.toList) (out := out) hoL
  have en : ns' = sortI ns := sorted_one (a2.trans (sortI_perm ns).symm) a3 (sortI_sorted ns)
  subst en
  have keep : ∀ b u, s.heap.get? b = some u → (sortedHeap (h'.push (seqObj "list" acc.toList.toArray 0)) h'.objs.size acc.toList out).get? b = some u := fun b u e => by
    have q := k1 b u e
    have hlt := Heap.lt_size q
    rw [sortedHeap_old (Nat.ne_of_lt hlt) (by rw [size_push']; exact Nat.lt_succ_of_lt hlt)]
    exact Heap.get?_push_of_some _ q
  have hp : s.heap.objs.size ≤ h'.objs.size := Nat.le_of_lt hsz
  have hn : H h'.objs.size = none := I.hok.fresh hp
  have hlen : ((sortI ns).map V.int).length ≤ sizeLine := by rw [List.length_map, (sortI_perm ns).length_eq, sizeLine_eq]; omega
  have J : Inv X pins σ (upd H h'.objs.size (.lst ((sortI ns).map V.int))) { s with heap := sortedHeap (h'.push (seqObj "list" acc.toList.toArray 0)) h'.objs.size acc.toList out, toks := tk } :=
    I.call (ch := []) (Un.laid keep hp hn) (I.hok.laid keep hp ⟨hlen, out.toList, c, vals_of_ints a1, hcc⟩) I.bare (fun _ z => nomatch z)
  exact wpAny_pure ⟨_, rfl, .ref h'.objs.size, _, J, rfl, q _ hn⟩
end MS
set_option Elab.async false
set_option linter.all false
set_option maxRecDepth 100000
set_option maxHeartbeats 4000000
namespace MS
open PySem PySem.Spec PyProof.Rows L2
def dropD (kvs : List (Key × D)) (k : Key) : List (Key × D) := kvs.filter fun kv => decide (kv.1 ≠ k)
theorem RpK.drop {K : PySem.W.Frag} {H : Hp} {μ : Mu} {k : Key} : ∀ {kws : List (Key × V)} {kvs : List (Key × D)}, RpK K H μ kws kvs → RpK K H μ (dropK kws k) (dropD kvs k)
  | [], kvs, h => by
    cases kvs with
    | nil => exact h
    | cons q kvs => cases h.1
  | p :: kws, kvs, h => by
    obtain ⟨q, kvs', rfl, e, r, h'⟩ := h.uncons
    obtain ⟨i1, i2⟩ := RpK.drop (k := k) h'
    unfold dropK dropD at *
    rw [List.filter_cons, List.filter_cons, e]
    by_cases hk : q.1 = k
    · rw [if_neg (by rw [decide_eq_true_eq]; exact fun z => z hk), if_neg (by rw [decide_eq_true_eq]; exact fun z => z hk)]
      exact ⟨i1, i2⟩
    · rw [if_pos (by rw [decide_eq_true_eq]; exact hk), if_pos (by rw [decide_eq_true_eq]; exact hk)]
      refine ⟨?_, ?_⟩
      · rw [List.map_cons, List.map_cons, i1, e]
      · rw [List.map_cons, List.map_cons]; exact .cons r i2
def mDPop (mo mi : MExp) : MExp := fun ρ S => (mo ρ S).bind fun p => match p.1 with
  | .lr n => match p.2[n]? with
    | some (.dk _) => (mi ρ p.2).bind fun q => match q.2[n]? with
      | some (.dk kvs) => (keyOf q.1).bind fun k => (valD kvs k).map fun d => (d, q.2.set n (.dk (dropD kvs k)))
      | _ => none
    | _ => none
  | _ => none
section
variable {X : Cx} {o e : Expr} {mo mi : MExp} {apos cpos : Pos}
theorem me_dpop (ho : ME X o mo) (he : ME X e mi) (hM : M1 X o "pop" apos e cpos) : ME X (.Call (.Attribute o "pop" apos) [e] [] cpos) (mDPop mo mi) :=
  ⟨PE.imp (pe_dpop1 ho.pe he.pe hM) fun σ H Q ⟨ρ, S, μ, d, S', s, e0, q⟩ => by
    obtain ⟨⟨d1, S1⟩, e1, e0⟩ := Option.bind_eq_some_iff.mp e0
    cases d1 with
    | lr n =>
      cases hn : S1[n]? with
      | none => have e0 : (match S1[n]? with | some (MO.dk _) => _ | _ => none) = some (d, S') := e0; rw [hn] at e0; cases e0
      | some y =>
      have e0 : (match S1[n]? with
        | some (MO.dk _) => (mi ρ S1).bind fun q => match q.2[n]? with
          | some (.dk kvs) => (keyOf q.1).bind fun k => (valD kvs k).map fun d => (d, q.2.set n (.dk (dropD kvs k)))
          | _ => none
        | _ => none) = some (d, S') := e0
      rw [hn] at e0
      cases y with
      | dk kv0 =>
        obtain ⟨⟨d2, S2⟩, e2, e0⟩ := Option.bind_eq_some_iff.mp e0
        have e0 : (match S2[n]? with
          | some (MO.dk kvs) => (keyOf d2).bind fun k => (valD kvs k).map fun d => (d, S2.set n (.dk (dropD kvs k)))
          | _ => none) = some (d, S') := e0
        refine ⟨ρ, S, μ, _, S1, s, e1, fun x H1 μ1 g1 s1 r1 => ?_⟩
        cases r1 with
        | lr ha =>
        rename_i a
        obtain ⟨a', q1, kws1, h1, _⟩ := s1.get hn
        rw [ha] at q1; cases q1
        refine ⟨a, rfl, .inl ⟨kws1, .inl h1⟩, ρ, S1, μ1, _, S2, s.grow g1 s1, e2, fun y H2 μ2 g2 s2 r2 => ?_⟩
        split at e0
        · rename_i kvs hk2
          obtain ⟨k, e3, e4⟩ := Option.bind_eq_some_iff.mp e0
          obtain ⟨d', e5, e6⟩ := Option.map_eq_some_iff.mp e4
          cases e6
          have ha2 : μ2.h[n]? = some a := by
            obtain ⟨tl, et⟩ := g2.pre
            rw [← et, List.getElem?_append_left (List.getElem?_eq_some_iff.mp ha).1]
            exact ha
          obtain ⟨a', q1, kws, h2, h3⟩ := s2.get hk2
          rw [ha2] at q1; cases q1
          rcases RpK.val (k := k) h3 with ⟨z, _⟩ | ⟨dd, v, z, hv, rv⟩
          · rw [e5] at z; cases z
          · rw [e5] at z; cases z
            have g : Grow H2 (upd H2 a (.dK (dropK kws k))) μ2 μ2 := .wrS s2 hk2 rfl ha2
            exact ⟨kws, k, v, h2, rp_key e3 r2, hv, q v _ μ2 ((g1.trans g2).trans g) (s2.wrM hk2 rfl ha2 ⟨_, upd_same, (RpK.drop h3).grow g⟩) (rv.grow g)⟩
        · cases e0
      | _ => cases e0
    | _ => cases e0⟩
end
def intKeys : List (Key × D) → Option (List Int)
  | [] => some []
  | (.inl i, _) :: r => (intKeys r).map (i :: ·)
  | (.inr _, _) :: _ => none
theorem intKeys_eq : ∀ {kvs : List (Key × D)} {ns : List Int}, intKeys kvs = some ns → kvs.map (·.1) = ns.map Sum.inl
  | [], _, e => by cases e; rfl
  | (.inl i, d) :: r, _, e => by
    obtain ⟨ns, e1, rfl⟩ := Option.map_eq_some_iff.mp (show (intKeys r).map (i :: ·) = some _ from e)
    rw [List.map_cons, List.map_cons, intKeys_eq e1]
  | (.inr _, _) :: _, _, e => nomatch e
def cSortedD : DCall := fun ds S => match ds with
  | [.lr n] => match S[n]? with
    | some (.dk kvs) => (intKeys kvs).bind fun ns => if ns.length < 64 then some (.lr S.length, S ++ [.lst ((sortI ns).map D.int)]) else none
    | _ => none
  | _ => none
theorem c_sortedD {X : Cx} (hc : X.calm = true) : CallR X (.builtin "sorted") (rCM X.K cSortedD) := CallR.imp (cr_sortedDict hc) fun vs H Q ⟨S, μ, ds, d, S', s, r, e, q⟩ => by
  unfold cSortedD at e
  split at e
  · rename_i n
    split at e
    · rename_i kvs hk
      obtain ⟨ns, e1, e⟩ := Option.bind_eq_some_iff.mp e
      split at e
      · rename_i h64
        cases e
        match vs, r with
        | _, .cons r1 .nil =>
          cases r1 with
          | lr ha =>
          obtain ⟨a', q1, kws, h1, h2⟩ := s.get hk
          rw [ha] at q1; cases q1
          exact ⟨_, kws, ns, rfl, h1, h2.1.trans (intKeys_eq e1), h64, fun p hp => q.lst s .ints hp⟩
      · cases e
    · cases e
  · cases e
theorem boot_dict : bootBuiltins "dict" = some (.type "dict") := by decide +kernel
def mergeD (kvs more : List (Key × D)) : List (Key × D) := more.foldl (fun acc kv => putD acc kv.1 kv.2) kvs
def pairsOf : List D → Option (List (Key × D))
  | [] => some []
  | .tup [k, d] :: r => (keyOf k).bind fun k => (pairsOf r).map fun l => (k, d) :: l
  | _ :: _ => none
theorem RpK.merge {K : PySem.W.Frag} {H : Hp} {μ : Mu} : ∀ {mws : List (Key × V)} {mds : List (Key × D)} {kws : List (Key × V)} {kvs : List (Key × D)}, RpK K H μ kws kvs → RpK K H μ mws mds → RpK K H μ (mergeK kws mws) (mergeD kvs mds)
  | [], mds, _, _, h, m => by
    cases mds with
    | nil => exact h
    | cons q mds => cases m.1
  | p :: mws, mds, kws, kvs, h, m => by
    obtain ⟨q, mds', rfl, e, r, m'⟩ := m.uncons
    have := RpK.merge (h.put (k := q.1) r) m'
    show RpK K H μ (mergeK (putK kws p.1 p.2) mws) (mergeD (putD kvs q.1 q.2) mds')
    rw [e]
    exact this
theorem pairs_rp {K : PySem.W.Frag} {H : Hp} {μ : Mu} : ∀ {ds : List D} {ws : List V} {kvs : List (Key × D)}, pairsOf ds = some kvs → RpA K H μ ws ds → ∃ (ps : List Addr) (kws : List (Key × V)), ws = ps.map V.ref ∧ RpK K H μ kws kvs ∧ Paired (fun p kv => SqT K H p [kV kv.1, kv.2]) ps kws
  | [], _, _, e, .nil => by cases e; exact ⟨[], [], rfl, ⟨rfl, .nil⟩, .nil⟩
  | d :: ds, _, _, e, .cons (v := v) (vs := vs) r rs => by
    unfold pairsOf at e
    split at e
    · rename_i heq; cases heq
    · rename_i k0 d0 r0 heq
      cases heq
      obtain ⟨k, e1, e⟩ := Option.bind_eq_some_iff.mp e
      obtain ⟨l, e2, rfl⟩ := Option.map_eq_some_iff.mp e
      obtain ⟨ps, kws, rfl, h2, h3⟩ := pairs_rp e2 rs
      cases r with
      | tup hy ry =>
        cases ry with
        | cons ra rb =>
          cases rb with
          | cons rb rc =>
            cases rc
            rename_i t _ vb
            refine ⟨t :: ps, (k, vb) :: kws, rfl, ⟨?_, ?_⟩, .cons ?_ h3⟩
            · rw [List.map_cons, List.map_cons, h2.1]
            · rw [List.map_cons, List.map_cons]; exact .cons rb h2.2
            · rw [← rp_key e1 ra]; exact sq _ _ hy
    · cases e
def cDictP : DCall := fun ds S => match ds with
  | [d] => (latD S d).bind fun es => (pairsOf es).map fun kvs => (.lr S.length, S ++ [.dk (mergeD [] kvs)])
  | _ => none
theorem c_dictP {X : Cx} (hc : X.calm = true) : CallR X (.type "dict") (rCM X.K cDictP) := CallR.imp (call_dictP hc) fun vs H Q ⟨S, μ, ds, d, S', s, r, e, q⟩ => by
  unfold cDictP at e
  split at e
  · obtain ⟨es, e1, e⟩ := Option.bind_eq_some_iff.mp e
    obtain ⟨kvs, e2, e⟩ := Option.map_eq_some_iff.mp e
    cases e
    match vs, r with
    | _, .cons r1 .nil =>
      obtain ⟨a, ws, rfl, h1, h2⟩ := s.latD e1 r1
      obtain ⟨ps, kws, rfl, h3, h4⟩ := pairs_rp e2 h2
      refine ⟨a, ps, kws, rfl, h1, h4, fun p hp => q (.ref p) _ (μ.add p) (.newL hp) (s.newM hp ⟨_, upd_same, (RpK.merge ⟨rfl, .nil⟩ h3).grow (.newL hp)⟩) (.lr (by rw [← s.len]; exact Mu.new))⟩
  · cases e
end MS
set_option Elab.async false
set_option linter.all false
set_option maxRecDepth 100000
set_option maxHeartbeats 4000000
namespace MS
open PySem PySem.Spec PyProof.Rows L2
def fAddOV : DOp2
  | .lr n, .lst b, S => (mat S n).bind fun a => if a.length + b.length ≤ szl then some (.lst (a ++ b), S) else none
  | _, _, _ => none
theorem o_addOV {X : Cx} : OpR X (binaryOp .Add) (rM X.K fAddOV) := by
  intro pins s σ H x y v u Q I rx ry ⟨S, μ, dx, dy, d, S', st, px, py, e, q⟩
  unfold fAddOV at e
  split at e
  · obtain ⟨a, e1, e⟩ := Option.bind_eq_some_iff.mp e
    split at e
    · rename_i hz
      cases e
      obtain ⟨p1, vs, rfl, _, h1, h2⟩ := st.mat e1 px
      cases py with
      | lst h3 h4 =>
      refine op_cat pins s σ H _ _ v u Q I rx ry ⟨_, _, _, _, rfl, rfl, h1, h3.1, ?_, fun p hp => q.lstV st (h2.append h4) hp⟩
      rw [h2.length, h4.length]; exact szl_le hz
    · cases e
  · cases e
end MS
namespace TM
open PySem PySem.Spec PyProof.Rows L2 MS
section
variable {α : Type} {S0 : Store} {sl : List Sl} {m : MExp} {A : α → D} {t : Option (List α)}
theorem xe_addO {i : Nat} {xs : List α} (h : sl[i]? = some (.own (xs.map A))) (hb : XE S0 sl m t (eL A)) : XE S0 sl (mBin fAddOV (mVar i) m) (t.bind fun y => extM xs y) (eL A) := fun ρ S s a e => by
  obtain ⟨ys, e1, e2⟩ := Option.bind_eq_some_iff.mp e
  obtain ⟨n, h1, h2, _⟩ := s.own i _ h
  obtain ⟨S1, q1, a1⟩ := hb ρ S s ys e1
  refine ⟨S1, ?_, a1⟩
  obtain ⟨hz, rfl⟩ := extM_some e2
  unfold mBin mVar
  rw [h1]
  show ((m ρ S).bind fun q => fAddOV (.lr n) q.1 q.2) = _
  rw [q1]
  show fAddOV (.lr n) (.lst (ys.map A)) S1 = _
  unfold fAddOV
  have h3 : mat S1 n = some (xs.map A) := by
    unfold mat
    rw [a1 _ _ h2]
  dsimp only
  rw [h3]
  show (if (xs.map A).length + (ys.map A).length ≤ szl then some (D.lst (xs.map A ++ ys.map A), S1) else none) = some (D.lst ((xs ++ ys).map A), S1)
  rw [List.length_map, List.length_map, if_pos hz, List.map_append]
end
end TM
set_option Elab.async false
set_option linter.all false
set_option maxRecDepth 100000
set_option maxHeartbeats 4000000
namespace MS
open PySem PySem.Spec PyProof.Rows L2
theorem vals_lock {K : PySem.W.Frag} {j : Nat} {g : MTg} {t : MTst} {e : MExp} {is vs : List Nat} (hvs : ∀ j ∈ is, j ∈ vs) {σ : L2.St} {H : Hp} {Q : VK} (h : tE K (mValsLc j g t e vs) σ H Q) : tLockE (tLc (iVals (tVar j)) (tGl K is g) (tT K t) (tE K e) vs) σ H Q := by
  obtain ⟨ρ, S, μ, d, S', st, e0, q⟩ := h
  unfold mValsLc at e0
  split at e0
  · rename_i n hn
    split at e0
    · rename_i kvs hk
      cases hsol : solidA (kvs.map (·.2)) with
      | false => rw [hsol] at e0; cases e0
      | true =>
      rw [hsol, cond_true] at e0
      obtain ⟨⟨d1, S1⟩, e1, e0⟩ := Option.bind_eq_some_iff.mp e0
      have e0 : (match S1[n]? with | some .gone => some (d1, S1.set n (.dk kvs)) | _ => none) = some (d, S') := e0
      split at e0
      · rename_i hgone
        cases e0
        obtain ⟨v, hv1, hv2⟩ := st.sl j _ hn
        cases hv2 with
        | lr ha =>
        rename_i a
        obtain ⟨a', q1, kws, h1, h2⟩ := st.st.get hk
        rw [ha] at q1
        cases q1
        have hlv : a ∈ μ.lv := st.st.own n _ a hk rfl ha
        have gl : ∀ od, Grow H (upd H a (.frz od (.dK kws))) μ μ := fun od => .wrS st.st hk rfl ha
        refine ⟨a, .dK kws, h1, trivial, fun od => ?_⟩
        have stl : Sim K (upd H a (.frz od (.dK kws))) μ σ ρ (S.set n .gone) := st.grow (gl od) (st.st.wrM hk rfl ha trivial)
        refine tLc_imp (fun R hR => ?_) (tE_lc (K := K) (i := mItK (kvs.map (·.2))) (g := g) (t := t) (e := e) (vs := vs) (is := is) hvs ⟨ρ, S.set n .gone, μ, _, S1, stl, e1, fun v H' μ' g' s' r' => ?_⟩)
        · obtain ⟨ρ2, S2, μ2, p, S3, st2, e2, k2⟩ := hR
          cases e2
          exact ⟨.ref a, hv1, a, od, kws, rfl, upd_same, k2 (Itd a od kws) _ μ2 .refl st2.st (isIt_vals upd_same (RpA.solid hsol (h2.2.grow (gl od))))⟩
        · have hf : H' a = some (.frz od (.dK kws)) := g'.frzs _ _ _ upd_same
          have hna : μ'.h[n]? = some a := by
            obtain ⟨tl, et⟩ := g'.pre
            rw [← et, List.getElem?_append_left (List.getElem?_eq_some_iff.mp ha).1]
            exact ha
          have gg := g'.lock h1 hlv
          refine ⟨hf, q v (upd H' a (.dK kws)) (μ'.live a) gg (s'.unlock hgone hna hf ⟨kws, upd_same, h2.grow gg⟩) (r'.unlock hf)⟩
      · cases e0
    · cases e0
  · cases e0
section
variable {X : Cx} {elt tg : Expr} {ifs : List Expr} {scope : Scope} {own : List (Str × Nat)} {pos px py ap cp spos : Pos} {x y : Str} {i j : Nat} {g : MTg} {t : MTst} {e : MExp} {is : List Nat}
theorem ms_setVals (hc : X.calm = true) (hN : X.N.Nodup) (hy : X.N[i]? = some y) (hyl : X.env.scope.names.lookup y = some .local)
    (hsw : swapsWith (.ListComp elt [⟨tg, .Call (.Attribute (.Name x px) "values" ap) [] [] cp, ifs, 0⟩] scope pos) (some (.Name y py)) spos.line X.env = pure true)
    (hx : X.N[j]? = some x) (hv : Vis X.env.scope x) (ok : BlkOk X.N X.env.scope scope own)
    (hg : ∀ (s : Shared) (H : Hp) (C : Addr) (cl : List (Str × Addr)) (fp : List Addr), MGl (X.blk s H scope (compEnvC scope cl C X.env) fp) is tg g) (ht : ∀ (s : Shared) (H : Hp) (C : Addr) (cl : List (Str × Addr)) (fp : List Addr), MTs (X.blk s H scope (compEnvC scope cl C X.env) fp) ifs t)
    (he : ∀ (s : Shared) (H : Hp) (C : Addr) (cl : List (Str × Addr)) (fp : List Addr), ME (X.blk s H scope (compEnvC scope cl C X.env) fp) elt e) (hvs : ∀ j ∈ is, j ∈ own.map (·.2)) (hs : ∀ y, foldedSetIterable (.Call (.Attribute (.Name x px) "values" ap) [] [] cp) X.env y = pure y := by intro _; rfl)
    (hbase : attributeBase (.Name x px) "values" X.env (eval (.Name x px) X.env) = eval (.Name x px) X.env := by rfl) (hline : (ap.endLine == cp.line) = true := by rfl) (hd : (x == ("__debug__" : Str)) = false := by decide) (hcd : (x == ("__classdict__" : Str)) = false := by decide) :
    MS_ X (.Assign [.Name y py] (.ListComp elt [⟨tg, .Call (.Attribute (.Name x px) "values" ap) [] [] cp, ifs, 0⟩] scope pos) spos) (mAsg (mFz (mValsLc j g t e (own.map (·.2)))) (mName i)) :=
  ⟨PS.imp (ps_lock (ps_setLc hc hN hy hyl hsw (pi_values (pe_var (pos := px) hx hv hd hcd) hbase hline) ok (fun s H C cl fp => (hg s H C cl fp).pg) (fun s H C cl fp => (ht s H C cl fp).pts) (fun s H C cl fp => (he s H C cl fp).pe) hs)) fun D_ σ H h => by
    obtain ⟨ρ, S, μ, f, ρ', S', s, e, q⟩ := h
    obtain ⟨⟨d, S1⟩, e1, e⟩ := Option.bind_eq_some_iff.mp e
    cases e
    obtain ⟨⟨d0, S0⟩, e0, e1⟩ := Option.bind_eq_some_iff.mp e1
    exact vals_lock (Q := fun v H1 => D_.nx (σ.set i (some v)) H1) hvs ⟨ρ, S, μ, d0, S0, s, e0, fun v H1 μ1 g1 s1 r1 => by
      obtain ⟨a, s2, r2⟩ := fz_rp s1 r1 e1
      exact q _ H1 (μ1.drop a) g1.dropped ((s.grow g1.dropped s2).set i r2)⟩⟩
end
end MS
set_option Elab.async false
set_option linter.all false
set_option maxRecDepth 100000
set_option maxHeartbeats 4000000
namespace MS
open PySem PySem.Spec PyProof.Rows L2
def fInPT : DOp2 := fun x y S => (toPy S 64 x).bind fun p => (toPy S 64 y).bind fun q => match q with
  | .tuple ps => if SeqAt.shaped p && SeqAt.shaped (.tuple ps) then some (.bl (ps.any fun z => PyData.eqv z p), S) else none
  | _ => none
theorem o_inPT {X : Cx} (hu : X.A.units + 65 < cLine) : OpR X (compareOp .In) (rM X.K fInPT) := by
  intro pins s σ H x y v u Q I rx ry ⟨S, μ, dx, dy, d, S', st, px, py, e, q⟩
  unfold fInPT at e
  obtain ⟨p, e1, e⟩ := Option.bind_eq_some_iff.mp e
  obtain ⟨w, e2, e⟩ := Option.bind_eq_some_iff.mp e
  cases w with
  | tuple ps =>
    have e : (if SeqAt.shaped p && SeqAt.shaped (.tuple ps) then some (D.bl (ps.any fun z => PyData.eqv z p), S) else none) = some (d, S') := e
    split at e
    · rename_i hs
      cases e
      rw [Bool.and_eq_true] at hs
      obtain ⟨as, r1⟩ := Dp.reads I p x v (dp_of st _ _ _ _ e1 px) rx
      obtain ⟨bs, r2⟩ := Dp.reads I (.tuple ps) y u (dp_of st _ _ _ _ e2 py) ry
      exact SeqAt.in_tuple_reads r2 r1 (SeqAt.canLay_of_shaped hs.2) (SeqAt.canLay_of_shaped hs.1) (room_in_shaped hs.1 hu) ⟨.bl _, H, I, rfl, q.id st (.bl _)⟩
    · cases e
  | _ => cases e
end MS
namespace TM
open PySem PySem.Spec PyProof.Rows L2 MS
section
variable {α : Type} [DecidableEq α] {A : α → D} {da : Nat}
theorem op_inPTG (f : Fa A da) (hd : da + 1 < 64) : Op2 fInPT A (eV A) eB fun a xs => some (decide (a ∈ xs)) := fun a xs c S e => by
  cases e
  unfold fInPT
  have h2 : toPy S 64 (eV A xs) = some (.tuple (xs.map f.py)) := (faV f).toPy_ 64 S xs hd
  rw [f.toPy_ 64 S a (by omega), h2]
  have sh : SeqAt.shaped (f.py a) = true := by
    unfold SeqAt.shaped
    rw [f.can, Bool.true_and]
    have := f.dp a
    exact decide_eq_true (by omega)
  have sh2 : SeqAt.shaped (.tuple (xs.map f.py)) = true := by
    have h1 := (faV f).can xs
    have h3 := (faV f).dp xs
    unfold SeqAt.shaped
    rw [show PyData.canLay0 (.tuple (xs.map f.py)) = true from h1, Bool.true_and]
    refine decide_eq_true ?_
    have : PyData.depth (.tuple (xs.map f.py)) ≤ da + 1 := h3
    omega
  show (if SeqAt.shaped (f.py a) && SeqAt.shaped (.tuple (xs.map f.py)) then some (D.bl ((xs.map f.py).any fun z => PyData.eqv z (f.py a)), S) else none) = _
  rw [sh, sh2, any_eq]
  rfl
end
theorem op_inPV {α : Type} [DecidableEq α] [inst : ∀ (a : α) (xs : List α), Decidable (a ∈ xs)] {A : α → D} {da : Nat} (f : Fa A da) (hd : da + 1 < 64) : Op2 fInPT A (eV A) eB fun a xs => some (decide (a ∈ xs)) := fun a xs c S e => by
  have h := op_inPTG f hd a xs _ S rfl
  have u : ∀ (i j : Decidable (a ∈ xs)), @decide _ i = @decide _ j := fun i j => by cases Subsingleton.elim i j; rfl
  cases e
  rw [h]
  exact congrArg (fun b => some (D.bl b, S)) (u _ _)
end TM
set_option Elab.async false
set_option linter.all false
set_option maxRecDepth 100000
set_option maxHeartbeats 4000000
namespace MS
open PySem PySem.Spec PyProof.Rows L2
section
open PySem.Calls PyProof.V
def GathT (z0 : Shared) (its : Array Value) (q : Result) (z : Shared) : Prop :=
  q = .ok (.ret (.ref z0.heap.objs.size)) ∧ z = { z0 with heap := (z0.heap.push { cls := .type "list", data := .seq ([] : List Value).toArray }).update z0.heap.objs.size (Obj.mapSeq (· ++ its)) }
theorem gatherT {prog : Program} {w : World} {A : Around} {E : Value → Shared → Prop} {z0 : Shared} {x : Addr} {o : Obj} {its : Array Value} {n : Nat} {R : List Value → Shared → Prop}
    (e1 : z0.heap.get? x = some o) (e2 : o.cls = .type "tuple") (e3 : o.data = .seq its n) (few : its.size ≤ sizeLine)
    (fin : ∀ hp : Heap, (∀ b o, z0.heap.get? b = some o → hp.get? b = some o) → z0.heap.objs.size < hp.objs.size → R its.toList { z0 with heap := hp }) :
    wpAny (model prog w) A (collect (.ref x)) R E z0 := by
  have new : (z0.heap.push { cls := .type "list", data := .seq ([] : List Value).toArray }).get? z0.heap.objs.size = some { cls := .type "list", data := .seq #[] 0 } := Heap.get?_push_size _ rfl
  have up : ∀ b o, z0.heap.get? b = some o → (z0.heap.push { cls := .type "list", data := .seq ([] : List Value).toArray }).get? b = some o := fun b o e => Heap.get?_push_of_some _ e
  have at_ := Heap.get?_update_self (Obj.mapSeq (· ++ its)) new rfl
  have last : R its.toList { z0 with heap := (z0.heap.push { cls := .type "list", data := .seq ([] : List Value).toArray }).update z0.heap.objs.size (Obj.mapSeq (· ++ its)) } :=
    fin _ (fun b o e => (Heap.get?_update_other _ _ (Nat.ne_of_gt (Heap.lt_size e))).trans (up b o e)) (Heap.lt_size at_)
  have ends : ∀ (z : Shared) (q : Result), GathT z0 its q z → ∃ v, q = .ok (.ret v) ∧ v = .ref z0.heap.objs.size ∧ ∃ o' : Obj, z.heap.get? z0.heap.objs.size = some o' ∧ (∃ k, o'.data = .seq (#[] ++ its) k) ∧ R its.toList z := by
    rintro z q ⟨rfl, rfl⟩
    exact ⟨_, rfl, rfl, _, at_, ⟨_, rfl⟩, last⟩
  unfold collect
  refine wpAny_bind (wpAny_runValue (codeAny_builtin (entry_proto_collect') ?_)); rw [Around.under_plainId (PySem.F.plain_proto_collect)]
  refine (show wpAny (model prog w) A.in1 (newList [] >>= fun l => again (.builtin "list.__iadd__" ⟨[l, .ref x], []⟩)) _ _ z0 from wpAny_bind (wpAny_newObj_type ?_))
  refine wpAny_pure ⟨plainId_quiet (PySem.F.plain_list_iadd) _, codeAny_builtin (entry_list_iadd') ?_⟩; rw [Around.under_plainId (PySem.F.plain_list_iadd)]
  have filled := wpAny_extend_seq (prog := prog) (w := w) (A := A) (R := GathT z0 its) (s := { z0 with heap := z0.heap.push { cls := .type "list", data := .seq ([] : List Value).toArray } }) z0.heap.objs.size x (.ref z0.heap.objs.size) 0 (.inr rfl) new (up _ _ e1) e2 e3 ⟨rfl, rfl⟩ few
  have go : ∀ z : Shared, (∃ o' : Obj, z.heap.get? z0.heap.objs.size = some o' ∧ (∃ k, o'.data = .seq (#[] ++ its) k) ∧ R its.toList z) → wpAny (model prog w) A (do
      match (← load z0.heap.objs.size).data with
        | .seq xs _ => pure xs.toList
        | _ => unsupported "internal:collect") R E z := fun z ⟨o', q1, ⟨k, q2⟩, q3⟩ => by
    refine wpAny_bind (wpAny_load q1 ?_)
    rw [q2]
    have : (#[] ++ its).toList = its.toList := by simp
    refine wpAny_pure ?_
    rw [this]
    exact q3
  refine wpAny_mono filled (fun r z g => ?_) fun e z g => ?_
  · cases r with
    | done f =>
      obtain ⟨v, k1, k2, k3⟩ := ends z _ g
      cases k1
      cases k2
      exact go z k3
    | again c =>
      refine ⟨g.1, codeAny_mono g.2 fun q z' g' => ?_⟩
      obtain ⟨v, rfl, rfl, k3⟩ := ends z' _ g'
      exact go z' k3
  · obtain ⟨z, _⟩ := g
    cases z
end
def rSortTup (K : PySem.W.Frag) : List V → Hp → VK → Prop := fun vs H Q => ∃ (a : Addr) (ns : List Int), vs = [V.ref a] ∧ SqT K H a (ns.map V.int) ∧ ns.length < 64 ∧
  ∀ p, H p = none → Q (.ref p) (upd H p (.lst ((sortI ns).map V.int)))
theorem cr_sortedTI2 {X : Cx} : CallR X (.builtin "sorted") (rSortTup X.K) := by
  intro pins s σ H vs us Q I r h
  obtain ⟨a, ns, rfl, ha, h64, q⟩ := h
  rw [Vals.ref1 r]
  obtain ⟨its, rv, ⟨o, ho, hc, n, hd⟩, hz⟩ := I.tuple ha
  have hI : IntsAre its ns := rv.ints
  have hvl : its.length = ns.length := by
    have := rv.length
    rw [List.length_map] at this
    exact this.symm
  refine Calls.call_function_entry kind_sorted plain_sorted entry_sorted (args_sorted1 _) ?_
  unfold Builtin.«sorted»
  refine wpAny_bind (m := checkCount "sorted" 1 1 _) (wpAny_pure ?_)
  refine wpAny_bind (gatherT ho hc hd (by show its.toArray.size ≤ _; rw [List.size_toArray, hvl, sizeLine_eq]; omega) (fun h' k1 hsz => ?_))
  refine wpAny_bind (wpAny_newList ?_ (by show its.length ≤ _; rw [hvl, sizeLine_eq]; omega))
  have hoL : (h'.push (seqObj "list" its.toArray 0)).get? h'.objs.size = some (seqObj "list" its.toArray 0) := Heap.get?_push_size _ rfl
  refine wpAny_bind (wpAny_holding (wpAny_call_entry slot_list_sort ⟨_, hoL, rfl⟩ entry_list_sort (list_sort_tree hoL hI (by rw [hvl]; exact h64) fun out ns' a1 a2 a3 => ⟨_, rfl, ?_⟩) (args_list_sort _)))
  obtain ⟨c, hcc⟩ := sortedHeap_at (vs := its) (out := out) hoL
  have en : ns' = sortI ns := sorted_one (a2.trans (sortI_perm ns).symm) a3 (sortI_sorted ns)
  subst en
  have keep : ∀ b u, s.heap.get? b = some u → (sortedHeap (h'.push (seqObj "list" its.toArray 0)) h'.objs.size its out).get? b = some u := fun b u e => by
    have q := k1 b u e
    have hlt := Heap.lt_size q
    rw [sortedHeap_old (Nat.ne_of_lt hlt) (by rw [size_push']; exact Nat.lt_succ_of_lt hlt)]
    exact Heap.get?_push_of_some _ q
  have hp : s.heap.objs.size ≤ h'.objs.size := Nat.le_of_lt hsz
  have hn : H h'.objs.size = none := I.hok.fresh hp
  have hlen : ((sortI ns).map V.int).length ≤ sizeLine := by rw [List.length_map, (sortI_perm ns).length_eq, sizeLine_eq]; omega
  have J : Inv X pins σ (upd H h'.objs.size (.lst ((sortI ns).map V.int))) { s with heap := sortedHeap (h'.push (seqObj "list" its.toArray 0)) h'.objs.size its out, toks := s.toks } :=
    I.call (ch := []) (Un.laid keep hp hn) (I.hok.laid keep hp ⟨hlen, out.toList, c, vals_of_ints a1, hcc⟩) I.bare (fun _ z => nomatch z)
  exact wpAny_pure ⟨_, rfl, .ref h'.objs.size, _, J, rfl, q _ hn⟩
def cSortedTI : DCall := fun ds S => match ds with
  | [.tup es] => (intsOf es).bind fun ns => if ns.length < 64 then some (.lr S.length, S ++ [.lst ((sortI ns).map D.int)]) else none
  | _ => none
theorem c_sortedTI {X : Cx} : CallR X (.builtin "sorted") (rCM X.K cSortedTI) := CallR.imp cr_sortedTI2 fun vs H Q ⟨S, μ, ds, d, S', s, r, e, q⟩ => by
  unfold cSortedTI at e
  split at e
  · obtain ⟨ns, e1, e⟩ := Option.bind_eq_some_iff.mp e
    split at e
    · rename_i h64
      cases e
      match vs, r with
      | _, .cons r1 .nil =>
        cases r1 with
        | tup hy ry =>
          refine ⟨_, ns, rfl, ?_, h64, fun p hp => q.lst s .ints hp⟩
          have := sq _ _ hy
          rwa [intsOf_rp e1 ry] at this
    · cases e
  · cases e
end MS
namespace TM
open PySem PySem.Spec PyProof.Rows L2 MS
theorem g_sortedV {xs : List Int} : Gvs (cFz cSortedTI) [eV eI xs] (cond (Nat.blt xs.length 64) (some (sortI xs)) none) (eL eI) := fun a e S => by
  cases k : Nat.blt xs.length 64 with
  | false => rw [k] at e; cases e
  | true =>
    rw [k] at e
    cases e
    have hlt : xs.length < 64 := by
      have : xs.length ≤ 63 := by simpa [Nat.blt] using k
      omega
    refine cFz_new ?_
    show ((intsOf (xs.map D.int)).bind fun ns => if ns.length < 64 then some (D.lr S.length, S ++ [MO.lst ((sortI ns).map D.int)]) else none) = _
    rw [intsOf_map]
    show (if xs.length < 64 then _ else none) = _
    rw [if_pos hlt]
end TM
set_option Elab.async false
set_option linter.all false
set_option maxRecDepth 100000
set_option maxHeartbeats 4000000
namespace TM
open PySem PySem.Spec PyProof.Rows L2 MS
def dkO {α : Type} (E : α → D) (js : List (Int × α)) : List (Key × D) := js.map fun p => (.inl p.1, E p.2)
theorem dkO_val {α : Type} {E : α → D} {k : Int} : ∀ {js : List (Int × α)}, valD (dkO E js) (.inl k) = (js.lookup k).map E
  | [] => rfl
  | (i, x) :: js => by
    show valD ((Sum.inl i, E x) :: dkO E js) (.inl k) = _
    rw [valD_cons, List.lookup_cons]
    by_cases h : i = k
    · subst h
      rw [if_pos rfl, beq_self_eq_true]
      rfl
    · rw [if_neg (fun z => h (Sum.inl.inj z)), show (k == i) = false from beq_eq_false_iff_ne.mpr fun z => h z.symm]
      exact dkO_val
theorem dkO_keys {α : Type} {E : α → D} : ∀ {js : List (Int × α)}, intKeys (dkO E js) = some (js.map (·.1))
  | [] => rfl
  | (i, x) :: js => by
    show (intKeys (dkO E js)).map (i :: ·) = _
    rw [dkO_keys]
    rfl
def GvK {α : Type} (n : Nat) (kvs : List (Key × D)) (F : DCall) (args : List D) (t : Option α) (E : α → D) : Prop := ∀ S, S[n]? = some (.dk kvs) → ∀ a, t = some a → ∃ S', F args S = some (E a, S') ∧ All S S'
section
variable {α β : Type} {S0 : Store} {sl : List Sl} {m : MExp} {A : α → D} {B : β → D} {t : Option Int} {js : List (Int × α)} {i n : Nat}
theorem gvk_of {np k : Nat} {M : MStm} {ds : List D} {kvs : List (Key × D)} {t : Option α} (hl : ds.length = np) (h : ∀ S, S[n]? = some (.dk kvs) → SR S (ds.map Sl.val ++ List.replicate (k - ds.length) Sl.unk) M t A) : GvK n kvs (den np k M) ds t A := fun S hS a e => by
  obtain ⟨ρ', S', q, a1⟩ := h S hS _ S sx_start a e
  refine ⟨S', ?_, a1⟩
  unfold den
  rw [if_pos hl, q]
theorem xe_dix (hd : S0[n]? = some (.dk (dkO A js))) (hs : sl[i]? = some (.val (.lr n))) (h : XE S0 sl m t eI) : XE S0 sl (mBin fIxD (mVar i) m) (t.bind fun k => js.lookup k) A := fun ρ S s c e => by
  obtain ⟨k, e1, e⟩ := bnd e
  obtain ⟨S1, q1, a1⟩ := h ρ S s k e1
  have hS : S1[n]? = some (.dk (dkO A js)) := a1 _ _ (s.all _ _ hd)
  refine ⟨S1, ?_, a1⟩
  unfold mBin mVar
  rw [s.val i _ hs]
  show ((m ρ S).bind fun q => fIxD (.lr n) q.1 q.2) = _
  rw [q1]
  show fIxD (.lr n) (.int k) S1 = _
  unfold fIxD isDict dget
  simp only [hS, if_true]
  show (some (valD (dkO A js) (.inl k))).bind (fun r => r.map fun d => (d, S1)) = _
  rw [dkO_val, e]
  rfl
theorem xe_din {neg : Bool} (hd : S0[n]? = some (.dk (dkO A js))) (hs : sl[i]? = some (.val (.lr n))) (h : XE S0 sl m t eI) : XE S0 sl (mBin (fInD neg) m (mVar i)) (t.bind fun k => some (if neg then !(js.lookup k).isSome else (js.lookup k).isSome)) eB := fun ρ S s c e => by
  obtain ⟨k, e1, e⟩ := bnd e
  cases e
  obtain ⟨S1, q1, a1⟩ := h ρ S s k e1
  have hS : S1[n]? = some (.dk (dkO A js)) := a1 _ _ (s.all _ _ hd)
  refine ⟨S1, ?_, a1⟩
  unfold mBin mVar
  rw [q1]
  show ((match ρ[i]? with | some (some d) => some (d, S1) | _ => none).bind fun q => fInD neg (.int k) q.1 q.2) = _
  rw [s.val i _ hs]
  show fInD neg (.int k) (.lr n) S1 = _
  unfold fInD isDict dget
  simp only [hS, if_true]
  show (some (valD (dkO A js) (.inl k))).map (fun r => (D.bl (if neg then !r.isSome else r.isSome), S1)) = _
  rw [dkO_val]
  cases js.lookup k <;> rfl
theorem xe_dsorted (hd : S0[n]? = some (.dk (dkO A js))) (hs : sl[i]? = some (.val (.lr n))) : XE S0 sl (mCall (cFz cSortedD) (mCons (mVar i) mNil)) (cond (Nat.blt js.length 64) (some (sortI (js.map (·.1)))) none) (eL eI) := fun ρ S s c e => by
  have hS : S[n]? = some (.dk (dkO A js)) := s.all _ _ hd
  cases k : Nat.blt js.length 64 with
  | false => rw [k] at e; cases e
  | true =>
    rw [k] at e
    cases e
    have hlt : js.length < 64 := by
      have : js.length ≤ 63 := by simpa [Nat.blt] using k
      omega
    have q : cSortedD [.lr n] S = some (.lr S.length, S ++ [.lst ((sortI (js.map (·.1))).map D.int)]) := by
      unfold cSortedD
      simp only [hS]
      rw [dkO_keys]
      show (if (js.map (·.1)).length < 64 then _ else none) = _
      rw [List.length_map, if_pos hlt]
    obtain ⟨S', q2, a2⟩ := cFz_new q
    refine ⟨S', ?_, a2⟩
    have : mCons (mVar i) mNil ρ S = some ([.lr n], S) := by
      unfold mCons mVar mNil
      rw [s.val i _ hs]
      rfl
    show ((mCons (mVar i) mNil ρ S).bind fun p => cFz cSortedD p.1 p.2) = _
    rw [this]
    exact q2
end
end TM
set_option Elab.async false
set_option linter.all false
set_option maxRecDepth 100000
set_option maxHeartbeats 4000000
namespace TM
open PySem PySem.Spec PyProof.Rows L2 MS
section
variable {α : Type} {S0 : Store} {p : Nat} {sl : List Sl} {m m3 : MExp} {A : α → D} {t1 : PM (List α)} {t3 : PM Int}
theorem px_slNV (h1 : PX S0 p sl m t1 (eV A)) (h3 : PX S0 p sl m3 t3 eI) :
    PX S0 p sl (mSl m mNoPart (mPart m3)) (bP t1 fun xs => bP (lP (some (none : Option Int))) fun l => bP (bP t3 fun x => lP (some (some x))) fun r => lP (some (cutT xs l r))) (eV A) := fun P ρ S s a P' e => by
  obtain ⟨xs, P1, e1, e⟩ := bP_some e
  obtain ⟨l, P2, e2, e⟩ := bP_some e
  obtain ⟨e2, rfl⟩ := lP_some e2
  cases e2
  obtain ⟨r, P3, e3, e⟩ := bP_some e
  obtain ⟨x, P4, e4, e3⟩ := bP_some e3
  obtain ⟨e5, rfl⟩ := lP_some e3
  cases e5
  obtain ⟨e6, rfl⟩ := lP_some e
  cases e6
  obtain ⟨S1, q1, k1⟩ := h1 P ρ S s xs _ e1
  obtain ⟨S2, q2, k2⟩ := h3 _ ρ S1 (s.pen k1) x _ e4
  refine ⟨S2, ?_, k1.trans s.lt k2⟩
  have q3 : mPart m3 ρ S1 = some (some x, S2) := by
    unfold mPart
    rw [q2]
    rfl
  unfold mSl
  rw [q1]
  show ((mPart m3 ρ S1).bind fun v => fSl (.tup (xs.map A)) none v.1 v.2) = _
  rw [q3]
  show some (D.tup (MS.cutD (xs.map A) none (some x)), S2) = some (D.tup ((cutT xs none (some x)).map A), S2)
  unfold MS.cutD cutT
  rw [List.length_map, List.map_take, List.map_drop]
end
end TM
set_option Elab.async false
set_option linter.all false
set_option maxRecDepth 100000
set_option maxHeartbeats 4000000
set_option synthInstance.maxSize 2000
namespace K16
open PySem PySem.Spec PyProof.Rows L2 MS TM
abbrev N_far_ends : List Str := ["joints", "x", "joint"]
def M_far_ends : MStm :=
  (mRet (mFz (mLc (mItems (mVar 0)) (mName 2) (mAnd (mB (mBin fIsNot (mVar 2) (mC .non))) (mB (mBin (fIn false) (mVar 1) (mVar 2)))) (mIf (mB (mBin fEq (mBin fIx (mVar 2) (mC (.int 0))) (mVar 1))) (mBin fIx (mVar 2) (mC (.int 1))) (mBin fIx (mVar 2) (mC (.int 0)))) [2])))
def F_far_ends : DCall := den 2 3 M_far_ends
abbrev N_joints_touching : List Str := ["joints", "some", "k", "joint"]
def M_joints_touching : MStm :=
  (mRet (mFz (mLc (mEnum (mCons (mVar 0) mNil)) (mgTup (mgCons (mName 2) (mgCons (mName 3) mgNil)) 2) (mAnd (mB (mBin fIsNot (mVar 3) (mC .non))) (mOr (mB (mBin (fIn false) (mBin fIx (mVar 3) (mC (.int 0))) (mVar 1))) (mB (mBin (fIn false) (mBin fIx (mVar 3) (mC (.int 1))) (mVar 1))))) (mVar 2) [2, 3])))
def F_joints_touching : DCall := den 2 4 M_joints_touching
abbrev N_removed_by : List Str := ["joints", "reduction"]
def M_removed_by : MStm :=
  (mSeq (mIfS (mB (mBin fEqS (mBin fIx (mVar 1) (mC (.int 0))) (mC (.str (Str.ofString "beside"))))) (mRet (mCall (cFz cList) (mCons (mSl (mVar 1) (mPart (mC (.int 1))) mNoPart) mNil))) mNx)
    (mRet (mCall F_joints_touching (mCons (mVar 0) (mCons (mIf (mB (mBin fEqS (mBin fIx (mVar 1) (mC (.int 0))) (mC (.str (Str.ofString "behind"))))) (mSl (mVar 1) (mPart (mC (.int 1))) (mPart (mC (.int 2)))) (mBin fIx (mVar 1) (mC (.int 2)))) mNil)))))
def F_removed_by : DCall := den 2 2 M_removed_by
abbrev N_without_joints : List Str := ["joints", "removed", "k", "joint"]
def M_without_joints : MStm :=
  (mRet (mFz (mLc (mEnum (mCons (mVar 0) mNil)) (mgTup (mgCons (mName 2) (mgCons (mName 3) mgNil)) 2) mYes (mIf (mB (mBin (fIn false) (mVar 2) (mVar 1))) (mC .non) (mVar 3)) [2, 3])))
def F_without_joints : DCall := den 2 4 M_without_joints
abbrev N_after_reduction : List Str := ["joints", "reduction", "left"]
def M_after_reduction : MStm :=
  (mSeq (mAsg (mCall F_without_joints (mCons (mVar 0) (mCons (mCall F_removed_by (mCons (mVar 0) (mCons (mVar 1) mNil))) mNil))) (mName 2))
    (mSeq (mIfS (mB (mBin fEqS (mBin fIx (mVar 1) (mC (.int 0))) (mC (.str (Str.ofString "beside"))))) (mRet (mBin fAdd (mVar 2) (mLstV (mCons (mBin fIx (mVar 0) (mBin fIx (mVar 1) (mC (.int 1)))) mNil)))) mNx)
    (mSeq (mIfS (mB (mBin fEqS (mBin fIx (mVar 1) (mC (.int 0))) (mC (.str (Str.ofString "behind"))))) (mRet (mBin fAdd (mVar 2) (mLstV (mCons (mCall cTuple (mCons (mCall F_far_ends (mCons (mVar 0) (mCons (mBin fIx (mVar 1) (mC (.int 1))) mNil))) mNil)) mNil)))) mNx)
    (mRet (mVar 2)))))
def F_after_reduction : DCall := den 2 3 M_after_reduction
abbrev N_has_joint : List Str := ["joints", "k"]
def M_has_joint : MStm :=
  (mRet (mAndV (mBin fLt (mVar 1) (mCall cLen (mCons (mVar 0) mNil))) (mBin fIsNot (mBin fIx (mVar 0) (mVar 1)) (mC .non))))
def F_has_joint : DCall := den 2 2 M_has_joint
abbrev N_is_between : List Str := ["joint", "x", "y"]
def M_is_between : MStm :=
  (mRet (mBin fInPT (mVar 0) (mTup (mCons (mTup (mCons (mVar 1) (mCons (mVar 2) mNil))) (mCons (mTup (mCons (mVar 2) (mCons (mVar 1) mNil))) mNil)))))
def F_is_between : DCall := den 3 3 M_is_between
abbrev N_is_within : List Str := ["joint", "some"]
def M_is_within : MStm :=
  (mRet (mAndV (mBin (fIn false) (mBin fIx (mVar 0) (mC (.int 0))) (mVar 1)) (mBin (fIn false) (mBin fIx (mVar 0) (mC (.int 1))) (mVar 1))))
def F_is_within : DCall := den 2 2 M_is_within
abbrev N_can_be_done : List Str := ["joints", "reduction", "hung", "ends", "_", "x", "some", "i", "j", "k"]
def M_can_be_done : MStm :=
  (mSeq (mIfS (mB (mBin fEqS (mBin fIx (mVar 1) (mC (.int 0))) (mC (.str (Str.ofString "beside"))))) (mSeq (mAsg (mVar 1) (mgTup (mgCons (mName 4) (mgCons (mName 7) (mgCons (mName 8) mgNil))) 3))
    (mRet (mAndV (mCall F_has_joint (mCons (mVar 0) (mCons (mVar 7) mNil))) (mAndV (mCall F_has_joint (mCons (mVar 0) (mCons (mVar 8) mNil))) (mCall F_is_between (mCons (mBin fIx (mVar 0) (mVar 7)) (mCons (mBin fIx (mBin fIx (mVar 0) (mVar 8)) (mC (.int 0))) (mCons (mBin fIx (mBin fIx (mVar 0) (mVar 8)) (mC (.int 1))) mNil)))))))) mNx)
    (mSeq (mIfS (mB (mBin fEqS (mBin fIx (mVar 1) (mC (.int 0))) (mC (.str (Str.ofString "behind"))))) (mSeq (mAsg (mCall F_far_ends (mCons (mVar 0) (mCons (mBin fIx (mVar 1) (mC (.int 1))) mNil))) (mName 3))
    (mRet (mAndV (mBin fEq (mCall cLen (mCons (mVar 3) mNil)) (mC (.int 2))) (mBin fNe (mBin fIx (mVar 3) (mC (.int 0))) (mBin fIx (mVar 3) (mC (.int 1))))))) mNx)
    (mSeq (mAsg (mVar 1) (mgTup (mgCons (mName 4) (mgCons (mName 5) (mgCons (mName 6) mgNil))) 3))
    (mSeq (mAsg (mCall F_joints_touching (mCons (mVar 0) (mCons (mVar 6) mNil))) (mName 2))
    (mRet (mAndV (mBin fGt (mCall cLen (mCons (mVar 2) mNil)) (mC (.int 0))) (mCall cAll (mCons (mFz (mLc (mItems (mVar 2)) (mName 9) mYes (mCall F_is_within (mCons (mBin fIx (mVar 0) (mVar 9)) (mCons (mBin fAdd (mVar 6) (mTup (mCons (mVar 5) mNil))) mNil))) [9])) mNil))))))))
def F_can_be_done : DCall := den 2 10 M_can_be_done
abbrev N_is_reduced : List Str := ["mine", "joints", "left", "joint"]
def M_is_reduced : MStm :=
  (mSeq (mAsg (mFz (mLc (mItems (mVar 1)) (mName 3) (mB (mBin fIsNot (mVar 3) (mC .non))) (mVar 3) [3])) (mName 2))
    (mRet (mAndV (mBin fEq (mCall cLen (mCons (mVar 2) mNil)) (mC (.int 1))) (mCall F_is_between (mCons (mBin fIx (mVar 2) (mC (.int 0))) (mCons (mBin fIx (mVar 0) (mC (.int 2))) (mCons (mBin fIx (mVar 0) (mC (.int 3))) mNil)))))))
def F_is_reduced : DCall := den 2 4 M_is_reduced
abbrev N_can_reduce : List Str := ["mine", "reductions", "joints", "index", "reduction"]
def M_can_reduce : MStm :=
  (mSeq (mAsg (mCall (cFz cList) (mCons (mBin fIx (mVar 0) (mC (.int 1))) mNil)) (mName 2))
    (mSeq (mFor (mEnum (mCons (mVar 1) mNil)) (mgTup (mgCons (mName 3) (mgCons (mName 4) mgNil)) 2) (mSeq (mIfS (mNot (mB (mCall F_can_be_done (mCons (mVar 2) (mCons (mVar 4) mNil))))) (mRet (mVar 3)) mNx)
    (mAsg (mCall F_after_reduction (mCons (mVar 2) (mCons (mVar 4) mNil))) (mName 2))))
    (mRet (mIf (mB (mCall F_is_reduced (mCons (mVar 0) (mCons (mVar 2) mNil)))) (mC .non) (mCall cLen (mCons (mVar 1) mNil))))))
def F_can_reduce : DCall := den 2 5 M_can_reduce
abbrev N_law_inner : List Str := ["mine", "x"]
def M_law_inner : MStm :=
  (mRet (mFz (mLc (mRange1 (mCons (mBin fIx (mVar 0) (mC (.int 0))) mNil)) (mName 1) (mB (mBin (fIn true) (mVar 1) (mSl (mVar 0) (mPart (mC (.int 2))) mNoPart))) (mVar 1) [1])))
def F_law_inner : DCall := den 1 2 M_law_inner
abbrev N_law_made : List Str := ["mine", "joints", "reduction", "some", "number", "ends", "inner", "x", "fars", "held", "one", "two", "end", "place"]
def M_law_made : MStm :=
  (mSeq (mAsg (mTup (mCons (mCall F_law_inner (mCons (mVar 0) mNil)) (mCons (mBin fIx (mVar 2) (mC (.int 1))) mNil))) (mgTup (mgCons (mName 6) (mgCons (mName 7) mgNil)) 2))
    (mSeq (mIfS (mB (mBin fEqS (mBin fIx (mVar 2) (mC (.int 0))) (mC (.str (Str.ofString "beside"))))) (mSeq (mAsg (mSl (mVar 2) (mPart (mC (.int 1))) mNoPart) (mgTup (mgCons (mName 10) (mgCons (mName 11) mgNil)) 2))
    (mSeq (mIfS (mOr (mB (mBin fGe (mVar 10) (mVar 11))) (mOr (mB (mBin (fInD true) (mVar 10) (mVar 1))) (mB (mBin (fInD true) (mVar 11) (mVar 1))))) (mRet (mLstV mNil)) mNx)
    (mSeq (mIfS (mB (mBin fNe (mCall (cFz cSortedTI) (mCons (mBin fIxD (mVar 1) (mVar 10)) mNil)) (mCall (cFz cSortedTI) (mCons (mBin fIxD (mVar 1) (mVar 11)) mNil)))) (mRet (mLstV mNil)) mNx)
    (mRet (mLstV (mCons (mLstV (mCons (mVar 10) (mCons (mVar 11) mNil))) (mCons (mBin fIxD (mVar 1) (mVar 10)) mNil))))))) mNx)
    (mSeq (mIfS (mB (mBin fEqS (mBin fIx (mVar 2) (mC (.int 0))) (mC (.str (Str.ofString "behind"))))) (mSeq (mAsg (mFz (mLc (mItems (mCall (cFz cSortedD) (mCons (mVar 1) mNil))) (mName 4) (mB (mBin (fIn false) (mVar 7) (mBin fIxD (mVar 1) (mVar 4)))) (mVar 4) [4])) (mName 3))
    (mSeq (mAsg (mFz (mLc (mItems (mVar 3)) (mName 4) mYes (mIf (mB (mBin fEq (mBin fIx (mBin fIxD (mVar 1) (mVar 4)) (mC (.int 0))) (mVar 7))) (mBin fIx (mBin fIxD (mVar 1) (mVar 4)) (mC (.int 1))) (mBin fIx (mBin fIxD (mVar 1) (mVar 4)) (mC (.int 0)))) [4])) (mName 8))
    (mSeq (mIfS (mOr (mB (mBin (fIn true) (mVar 7) (mVar 6))) (mOr (mB (mBin fNe (mCall cLen (mCons (mVar 3) mNil)) (mC (.int 2)))) (mB (mBin fEq (mBin fIx (mVar 8) (mC (.int 0))) (mBin fIx (mVar 8) (mC (.int 1))))))) (mRet (mLstV mNil)) mNx)
    (mRet (mLstV (mCons (mVar 3) (mCons (mCall cTuple (mCons (mVar 8) mNil)) mNil))))))) mNx)
    (mSeq (mAsg (mTup (mCons (mBin fIx (mVar 2) (mC (.int 2))) (mCons (mLst mNil) mNil))) (mgTup (mgCons (mName 9) (mgCons (mName 5) mgNil)) 2))
    (mSeq (mAsg (mFz (mLc (mItems (mCall (cFz cSortedD) (mCons (mVar 1) mNil))) (mName 4) (mOr (mB (mBin (fIn false) (mBin fIx (mBin fIxD (mVar 1) (mVar 4)) (mC (.int 0))) (mVar 9))) (mB (mBin (fIn false) (mBin fIx (mBin fIxD (mVar 1) (mVar 4)) (mC (.int 1))) (mVar 9)))) (mVar 4) [4])) (mName 3))
    (mSeq (mFor (mItems (mVar 3)) (mName 4) (mDrop (mExtV (mVar 5) (mCons (mCall (cFz cList) (mCons (mBin fIxD (mVar 1) (mVar 4)) mNil)) mNil))))
    (mSeq (mAsg (mLc (mItems (mVar 5)) (mName 12) (mAnd (mB (mBin (fIn true) (mVar 12) (mVar 9))) (mB (mBin fNe (mVar 12) (mVar 7)))) (mVar 12) [12]) (mName 5))
    (mSeq (mIfS (mOr (mB (mBin (fIn false) (mVar 7) (mVar 9))) (mOr (mB (mBin fEq (mVar 3) (mLstV mNil))) (mB (mBin fNe (mVar 5) (mLstV mNil))))) (mRet (mLstV mNil)) mNx)
    (mSeq (mIfS (mB (mBin fNe (mFz (mLc (mItems (mVar 9)) (mName 13) (mB (mBin (fIn true) (mVar 13) (mVar 6))) (mVar 13) [13])) (mLstV mNil))) (mRet (mLstV mNil)) mNx)
    (mRet (mLstV (mCons (mVar 3) (mCons (mC .non) mNil)))))))))))))
def F_law_made : DCall := den 3 14 M_law_made
abbrev N_law_reduced_due : List Str := ["mine", "reductions", "left", "joints", "number", "at", "reduction", "made", "gone", "joint", "way"]
def M_law_reduced_due : MStm :=
  (mSeq (mPar 3 4 (mCons (mCall cDictP (mCons (mFz (mLc (mEnum (mCons (mBin fIx (mVar 0) (mC (.int 1))) mNil)) (mgTup (mgCons (mName 5) (mgCons (mName 10) mgNil)) 2) mYes (mTup (mCons (mVar 5) (mCons (mVar 10) mNil))) [5, 10])) mNil)) (mCons (mCall cLen (mCons (mBin fIx (mVar 0) (mC (.int 1))) mNil)) mNil)))
    (mSeq (mFor (mEnum (mCons (mVar 1) mNil)) (mgTup (mgCons (mName 5) (mgCons (mName 6) mgNil)) 2) (mSeq (mAsg (mCall F_law_made (mCons (mVar 0) (mCons (mVar 3) (mCons (mVar 6) mNil)))) (mName 7))
    (mSeq (mIfS (mB (mBin fEq (mVar 7) (mLstV mNil))) (mRet (mVar 5)) mNx)
    (mSeq (mFor (mItems (mBin fIx (mVar 7) (mC (.int 0)))) (mName 8) (mDrop (mDPop (mVar 3) (mVar 8))))
    (mIfS (mB (mBin fIsNot (mBin fIx (mVar 7) (mC (.int 1))) (mC .non))) (mSeq (mAsg (mBin fIx (mVar 7) (mC (.int 1))) (mgDict (mVar 3) (mVar 4)))
    (mAsg (mBin fAdd (mVar 4) (mC (.int 1))) (mName 4))) mNx)))))
    (mSeq (mAsg (mFz (mValsLc 3 (mName 9) mYes (mCall (cFz cSortedTI) (mCons (mVar 9) mNil)) [9])) (mName 2))
    (mRet (mIf (mB (mBin fEq (mVar 2) (mLstV (mCons (mCall (cFz cSortedTI) (mCons (mSl (mVar 0) (mPart (mC (.int 2))) mNoPart) mNil)) mNil)))) (mC .non) (mCall cLen (mCons (mVar 1) mNil)))))))
def F_law_reduced_due : DCall := den 2 11 M_law_reduced_due
abbrev N_law_some_reduction : List Str := ["pen", "mine", "number", "inner", "some", "x", "option", "places", "one", "place"]
def M_law_some_reduction : MStm :=
  (mSeq (mPar 6 7 (mCons (mCall F_law_draw (mCons (mVar 0) (mCons (mC (.int 3)) mNil))) (mCons (mFz (mListRg (mBin fIx (mVar 1) (mC (.int 0))))) mNil)))
    (mSeq (mIfS (mB (mBin fEq (mVar 6) (mC (.int 0)))) (mSeq (mAsg (mCall F_law_draw (mCons (mVar 0) (mCons (mVar 2) mNil))) (mName 8))
    (mRet (mTup (mCons (mC (.str (Str.ofString "beside"))) (mCons (mVar 8) (mCons (mBin fAdd (mBin fAdd (mVar 8) (mC (.int 1))) (mCall F_law_draw (mCons (mVar 0) (mCons (mC (.int 3)) mNil)))) mNil)))))) mNx)
    (mSeq (mAsg (mCall F_law_inner (mCons (mVar 1) mNil)) (mName 3))
    (mSeq (mIfS (mAnd (mB (mBin fEq (mVar 6) (mC (.int 1)))) (mB (mBin fNe (mVar 3) (mLstV mNil)))) (mRet (mTup (mCons (mC (.str (Str.ofString "behind"))) (mCons (mCall F_law_one_of (mCons (mVar 0) (mCons (mVar 3) mNil))) mNil)))) mNx)
    (mSeq (mAsg (mFz (mLc (mItems (mVar 3)) (mName 5) (mB (mBin fEq (mCall F_law_draw (mCons (mVar 0) (mCons (mC (.int 2)) mNil))) (mC (.int 0)))) (mVar 5) [5])) (mName 4))
    (mSeq (mAsg (mCall F_law_one_of (mCons (mVar 0) (mCons (mFz (mLc (mItems (mVar 7)) (mName 9) (mB (mBin (fIn true) (mVar 9) (mVar 4))) (mVar 9) [9])) mNil))) (mName 5))
    (mRet (mIf (mB (mBin fNe (mVar 4) (mLstV mNil))) (mTup (mCons (mC (.str (Str.ofString "hung"))) (mCons (mVar 5) (mCons (mCall cTuple (mCons (mVar 4) mNil)) mNil)))) (mTup (mCons (mC (.str (Str.ofString "beside"))) (mCons (mC (.int 0)) (mCons (mC (.int 1)) mNil))))))))))))
def F_law_some_reduction : DCall := den 3 10 M_law_some_reduction
abbrev N_law_row : List Str := ["pen", "mine", "lap", "found", "number", "newer"]
def M_law_row : MStm :=
  (mSeq (mPar 3 4 (mCons (mLst mNil) (mCons (mCall cLen (mCons (mBin fIx (mVar 1) (mC (.int 1))) mNil)) mNil)))
    (mSeq (mFor (mRange1 (mCons (mC (.int 40)) mNil)) (mName 2) (mSeq (mAsg (mCall F_law_some_reduction (mCons (mVar 0) (mCons (mVar 1) (mCons (mVar 4) mNil)))) (mName 5))
    (mIfS (mB (mBin fInPT (mCall F_law_reduced_due (mCons (mVar 1) (mCons (mCall cTuple (mCons (mBin fAddOV (mVar 3) (mLstV (mCons (mVar 5) mNil))) mNil)) mNil))) (mTup (mCons (mC .non) (mCons (mBin fAdd (mCall cLen (mCons (mVar 3) mNil)) (mC (.int 1))) mNil))))) (mSeq (mDrop (mApp (mVar 3) (mCons (mVar 5) mNil)))
    (mAsg (mBin fAdd (mVar 4) (mCall cInt (mCons (mBin fNeS (mBin fIx (mVar 5) (mC (.int 0))) (mC (.str (Str.ofString "hung")))) mNil))) (mName 4))) mNx)))
    (mRet (mCall cTuple (mCons (mVar 3) mNil)))))
def F_law_row : DCall := den 2 6 M_law_row
abbrev N_law : List Str := ["script", "pen", "turn", "mine", "row", "some", "at", "odd", "before"]
def M_law : MStm :=
  (mSeq (mAsg (mCall F_law_pen (mCons (mVar 0) mNil)) (mName 1))
    (mSeq (mFor (mRange1 (mCons (mCall cMax (mCons (mC (.int 2)) (mCons (mCall cMin (mCons (mC (.int 4)) (mCons (mCall cLen (mCons (mVar 0) mNil)) mNil))) mNil))) mNil)) (mName 2) (mSeq (mAsg (mCall F_law_mine (mCons (mVar 1) (mCons (mBin fAdd (mC (.int 2)) (mCall F_law_draw (mCons (mVar 1) (mCons (mC (.int 5)) mNil)))) (mCons (mC (.int 8)) mNil)))) (mName 3))
    (mSeq (mIfS (mB (mBin fEq (mCall F_law_draw (mCons (mVar 1) (mCons (mC (.int 4)) mNil))) (mC (.int 0)))) (mAsg (mCall F_law_loose (mCons (mVar 1) (mCons (mTup (mCons (mBin fIx (mVar 3) (mC (.int 0))) (mCons (mSl (mBin fIx (mVar 3) (mC (.int 1))) mNoPart (mPart (mCall F_law_draw (mCons (mVar 1) (mCons (mC (.int 2)) mNil))))) (mCons (mBin fIx (mVar 3) (mC (.int 2))) (mCons (mBin fIx (mVar 3) (mC (.int 3))) mNil))))) mNil))) (mName 3)) mNx)
    (mSeq (mAsg (mIf (mB (mBin fNe (mBin fIx (mVar 3) (mC (.int 1))) (mTup mNil))) (mCall F_law_row (mCons (mVar 1) (mCons (mVar 3) mNil))) (mTup mNil)) (mName 4))
    (mSeq (mPar 6 7 (mCons (mCall F_law_draw (mCons (mVar 1) (mCons (mBin fAdd (mCall cLen (mCons (mVar 4) mNil)) (mC (.int 1))) mNil))) (mCons (mCall F_law_some_reduction (mCons (mVar 1) (mCons (mVar 3) (mCons (mC (.int 9)) mNil)))) mNil)))
    (mFor (mItems (mTup (mCons (mVar 4) (mCons (mSl (mVar 4) mNoPart (mPart (mNeg (mC (.int 1))))) (mCons (mSl (mVar 4) (mPart (mC (.int 1))) mNoPart) (mCons (mBin fAdd (mBin fAdd (mSl (mVar 4) mNoPart (mPart (mVar 6))) (mTup (mCons (mVar 7) mNil))) (mSl (mVar 4) (mPart (mVar 6)) mNoPart)) (mCons (mRevT (mVar 4)) (mCons (mTup mNil) mNil)))))))) (mName 5) (mSeq (mAsg (mCall cReprX (mCons (mTup (mCons (mVar 3) (mCons (mVar 5) mNil))) mNil)) (mName 8))
    (mIfS (mOr (mB (mBin fNe (mCall cRepr (mCons (mCall F_can_reduce (mCons (mVar 3) (mCons (mVar 5) mNil))) mNil)) (mCall cRepr (mCons (mCall F_law_reduced_due (mCons (mVar 3) (mCons (mVar 5) mNil))) mNil)))) (mB (mBin fNe (mCall cReprX (mCons (mTup (mCons (mVar 3) (mCons (mVar 5) mNil))) mNil)) (mVar 8)))) (mRet (mC (.bl false))) mNx))))))))
    (mRet (mC (.bl true)))))
def F_law : DCall := den 1 9 M_law
end K16
set_option Elab.async false
set_option linter.all false
set_option maxRecDepth 100000
set_option maxHeartbeats 4000000
set_option synthInstance.maxSize 2000
namespace K16
open PySem PySem.Spec PyProof.Rows L2 MS TM
def t_far_ends (v_joints : (List D)) (v_x : Int) : Option (List Int) :=
  (((some v_joints)).bind fun x22 => compM (fun a1 => (((((some a1)).bind fun x5 => some (!x5.isNon))).bind fun x6 => cond x6 (((some v_x)).bind fun x2 => ((((some a1)).bind fun x4 => (asVo asI) x4)).bind fun x3 => some (decide (x2 ∈ x3))) (some false))) (fun a1 => (((((((((((some a1)).bind fun x7 => asV x7)).bind fun x8 => ((some (0 : Int))).bind fun x9 => atT x8 x9)).bind fun x10 => asI x10)).bind fun x11 => ((some v_x)).bind fun x12 => some (decide (x11 = x12)))).bind fun x21 => cond x21 (((((((some a1)).bind fun x13 => asV x13)).bind fun x14 => ((some (1 : Int))).bind fun x15 => atT x14 x15)).bind fun x16 => asI x16) (((((((some a1)).bind fun x17 => asV x17)).bind fun x18 => ((some (0 : Int))).bind fun x19 => atT x18 x19)).bind fun x20 => asI x20))) x22)
theorem s_far_ends (v_joints : (List D)) (v_x : Int) : Gvs F_far_ends [(eL eD) v_joints, eI v_x] (t_far_ends v_joints v_x) (eL eI) := gvs_of rfl fun S0 => by
  unfold M_far_ends t_far_ends
  exact (sr_ret (xe_lc (xi_L (xe_var (eL eD) rfl)) (fun a1 => xg_name) (fun a1 => (xt_and (xt_B (xe_isNotND (xe_var eD rfl))) (xt_B (xe_bin (xe_var eI rfl) (xe_view (as_Vo as_I) (xe_var eD rfl)) op_inV)))) (fun a1 => (xe_if (xt_B (xe_bin (xe_view as_I (xe_bin (xe_view as_V (xe_var eD rfl)) (xe_c eI rfl) op_ixV)) (xe_var eI rfl) (op_eq_ faI (by decide)))) (xe_view as_I (xe_bin (xe_view as_V (xe_var eD rfl)) (xe_c eI rfl) op_ixV)) (xe_view as_I (xe_bin (xe_view as_V (xe_var eD rfl)) (xe_c eI rfl) op_ixV))))))
def t_joints_touching (v_joints : (List D)) (v_some : (List Int)) : Option (List Int) :=
  (((((some v_joints)).bind fun x1 => some (enumI x1))).bind fun x18 => compM (fun a2 => (((((some a2.2)).bind fun x16 => some (!x16.isNon))).bind fun x17 => cond x17 (((((((((((some a2.2)).bind fun x11 => asV x11)).bind fun x12 => ((some (0 : Int))).bind fun x13 => atT x12 x13)).bind fun x14 => asI x14)).bind fun x9 => ((some v_some)).bind fun x10 => some (decide (x9 ∈ x10)))).bind fun x15 => cond x15 (some true) (((((((((some a2.2)).bind fun x5 => asV x5)).bind fun x6 => ((some (1 : Int))).bind fun x7 => atT x6 x7)).bind fun x8 => asI x8)).bind fun x3 => ((some v_some)).bind fun x4 => some (decide (x3 ∈ x4)))) (some false))) (fun a2 => (some a2.1)) x18)
theorem s_joints_touching (v_joints : (List D)) (v_some : (List Int)) : Gvs F_joints_touching [(eL eD) v_joints, (eV eI) v_some] (t_joints_touching v_joints v_some) (eL eI) := gvs_of rfl fun S0 => by
  unfold M_joints_touching t_joints_touching
  exact (sr_ret (xe_lc (xi_enumL (xe_var (eL eD) rfl)) (fun a2 => (xg_tup (xgs_cons xg_name (xgs_cons xg_name xgs_nil)) rfl)) (fun a2 => (xt_and (xt_B (xe_isNotND (xe_var eD rfl))) (xt_or (xt_B (xe_bin (xe_view as_I (xe_bin (xe_view as_V (xe_var eD rfl)) (xe_c eI rfl) op_ixV)) (xe_var (eV eI) rfl) op_inV)) (xt_B (xe_bin (xe_view as_I (xe_bin (xe_view as_V (xe_var eD rfl)) (xe_c eI rfl) op_ixV)) (xe_var (eV eI) rfl) op_inV))))) (fun a2 => (xe_var eI rfl))))
def t_removed_by (v_joints : (List D)) (v_reduction : D) : Option (List Int) :=
  (((((((((some v_reduction)).bind fun x2 => asV x2)).bind fun x3 => ((some (0 : Int))).bind fun x4 => atT x3 x4)).bind fun x5 => ((some (Str.ofString "beside"))).bind fun x6 => eqS x5 x6)).bind fun x1 => cond x1 (((((((((((some v_reduction)).bind fun x12 => asV x12)).bind fun x14 => ((((some (1 : Int))).bind fun x13 => some (some x13))).bind fun x15 => ((some none)).bind fun x16 => some (cutT x14 x15 x16))).bind fun x17 => some ((eV eD) x17))).bind fun x18 => (asVo asI) x18)).bind fun x19 => some x19) (((some v_joints)).bind fun x38 => ((((((((((some v_reduction)).bind fun x20 => asV x20)).bind fun x21 => ((some (0 : Int))).bind fun x22 => atT x21 x22)).bind fun x23 => ((some (Str.ofString "behind"))).bind fun x24 => eqS x23 x24)).bind fun x37 => cond x37 (((((((((some v_reduction)).bind fun x25 => asV x25)).bind fun x28 => ((((some (1 : Int))).bind fun x26 => some (some x26))).bind fun x29 => ((((some (2 : Int))).bind fun x27 => some (some x27))).bind fun x30 => some (cutT x28 x29 x30))).bind fun x31 => some ((eV eD) x31))).bind fun x32 => (asVo asI) x32) (((((((some v_reduction)).bind fun x33 => asV x33)).bind fun x34 => ((some (2 : Int))).bind fun x35 => atT x34 x35)).bind fun x36 => (asVo asI) x36))).bind fun x39 => t_joints_touching x38 x39))
theorem s_removed_by (v_joints : (List D)) (v_reduction : D) : Gvs F_removed_by [(eL eD) v_joints, eD v_reduction] (t_removed_by v_joints v_reduction) (eL eI) := gvs_of rfl fun S0 => by
  unfold M_removed_by t_removed_by
  exact (sr_ifr (xt_B (xe_bin (xe_bin (xe_view as_V (xe_var eD rfl)) (xe_c eI rfl) op_ixV) (xe_c eS rfl) op_eqDS)) (sr_ret (xe_call1 (xe_view (as_Vo as_I) (xe_map (B := eD) (f := (eV eD)) (xe_slV (xe_view as_V (xe_var eD rfl)) (xp_some (xe_c eI rfl)) xp_none) (fun _ => rfl))) (fun _ => g_listV))) (sr_ret (xe_call2 (xe_var (eL eD) rfl) (xe_if (xt_B (xe_bin (xe_bin (xe_view as_V (xe_var eD rfl)) (xe_c eI rfl) op_ixV) (xe_c eS rfl) op_eqDS)) (xe_view (as_Vo as_I) (xe_map (B := eD) (f := (eV eD)) (xe_slV (xe_view as_V (xe_var eD rfl)) (xp_some (xe_c eI rfl)) (xp_some (xe_c eI rfl))) (fun _ => rfl))) (xe_view (as_Vo as_I) (xe_bin (xe_view as_V (xe_var eD rfl)) (xe_c eI rfl) op_ixV))) (fun _ _ => s_joints_touching _ _))))
def t_without_joints (v_joints : (List D)) (v_removed : (List Int)) : Option (List D) :=
  (((((some v_joints)).bind fun x1 => some (enumI x1))).bind fun x6 => compM (fun a2 => (some true)) (fun a2 => (((((some a2.1)).bind fun x3 => ((some v_removed)).bind fun x4 => some (decide (x3 ∈ x4)))).bind fun x5 => cond x5 (some D.non) (some a2.2))) x6)
theorem s_without_joints (v_joints : (List D)) (v_removed : (List Int)) : Gvs F_without_joints [(eL eD) v_joints, (eL eI) v_removed] (t_without_joints v_joints v_removed) (eL eD) := gvs_of rfl fun S0 => by
  unfold M_without_joints t_without_joints
  exact (sr_ret (xe_lc (xi_enumL (xe_var (eL eD) rfl)) (fun a2 => (xg_tup (xgs_cons xg_name (xgs_cons xg_name xgs_nil)) rfl)) (fun a2 => xt_yes) (fun a2 => (xe_if (xt_B (xe_bin (xe_var eI rfl) (xe_var (eL eI) rfl) op_inL)) (xe_c eD rfl) (xe_var eD rfl)))))
def t_after_reduction (v_joints : (List D)) (v_reduction : D) : Option (List D) :=
  (((((some v_joints)).bind fun x4 => ((((some v_joints)).bind fun x2 => ((some v_reduction)).bind fun x3 => t_removed_by x2 x3)).bind fun x5 => t_without_joints x4 x5)).bind fun x1 => (((((((((some v_reduction)).bind fun x7 => asV x7)).bind fun x8 => ((some (0 : Int))).bind fun x9 => atT x8 x9)).bind fun x10 => ((some (Str.ofString "beside"))).bind fun x11 => eqS x10 x11)).bind fun x6 => cond x6 (((some x1)).bind fun x19 => ((((((some v_joints)).bind fun x16 => ((((((((some v_reduction)).bind fun x12 => asV x12)).bind fun x13 => ((some (1 : Int))).bind fun x14 => atT x13 x14)).bind fun x15 => asI x15)).bind fun x17 => atT x16 x17)).bind fun x18 => some [x18])).bind fun x20 => extM x19 x20) (((((((((some v_reduction)).bind fun x22 => asV x22)).bind fun x23 => ((some (0 : Int))).bind fun x24 => atT x23 x24)).bind fun x25 => ((some (Str.ofString "behind"))).bind fun x26 => eqS x25 x26)).bind fun x21 => cond x21 (((some x1)).bind fun x36 => ((((((((((some v_joints)).bind fun x31 => ((((((((some v_reduction)).bind fun x27 => asV x27)).bind fun x28 => ((some (1 : Int))).bind fun x29 => atT x28 x29)).bind fun x30 => asI x30)).bind fun x32 => t_far_ends x31 x32)).bind fun x33 => some x33)).bind fun x34 => some ((eV eI) x34))).bind fun x35 => some [x35])).bind fun x37 => extM x36 x37) (some x1))))
theorem s_after_reduction (v_joints : (List D)) (v_reduction : D) : Gvs F_after_reduction [(eL eD) v_joints, eD v_reduction] (t_after_reduction v_joints v_reduction) (eL eD) := gvs_of rfl fun S0 => by
  unfold M_after_reduction t_after_reduction
  exact (sr_seqN (sn_asg (xe_call2 (xe_var (eL eD) rfl) (xe_call2 (xe_var (eL eD) rfl) (xe_var eD rfl) (fun _ _ => s_removed_by _ _)) (fun _ _ => s_without_joints _ _))) (fun x1 => (sr_ifr (xt_B (xe_bin (xe_bin (xe_view as_V (xe_var eD rfl)) (xe_c eI rfl) op_ixV) (xe_c eS rfl) op_eqDS)) (sr_ret (xe_bin (xe_var (eL eD) rfl) (xe_lst1 (C := (eL eD)) (fun x18 => [x18]) (xe_bin (xe_var (eL eD) rfl) (xe_view as_I (xe_bin (xe_view as_V (xe_var eD rfl)) (xe_c eI rfl) op_ixV)) op_ixL) (fun _ => rfl)) op_catL)) (sr_ifr (xt_B (xe_bin (xe_bin (xe_view as_V (xe_var eD rfl)) (xe_c eI rfl) op_ixV) (xe_c eS rfl) op_eqDS)) (sr_ret (xe_bin (xe_var (eL eD) rfl) (xe_lst1 (C := (eL eD)) (fun x35 => [x35]) (xe_map (B := eD) (f := (eV eI)) (xe_call1 (xe_call2 (xe_var (eL eD) rfl) (xe_view as_I (xe_bin (xe_view as_V (xe_var eD rfl)) (xe_c eI rfl) op_ixV)) (fun _ _ => s_far_ends _ _)) (fun _ => g_tupleL)) (fun _ => rfl)) (fun _ => rfl)) op_catL)) (sr_ret (xe_var (eL eD) rfl))))))
def t_has_joint (v_joints : (List D)) (v_k : Int) : Option Bool :=
  (((((some v_k)).bind fun x5 => ((((some v_joints)).bind fun x4 => some (x4.length : Int))).bind fun x6 => some (decide (x5 < x6)))).bind fun x7 => cond x7 (((((some v_joints)).bind fun x1 => ((some v_k)).bind fun x2 => atT x1 x2)).bind fun x3 => some (!x3.isNon)) (some false))
theorem s_has_joint (v_joints : (List D)) (v_k : Int) : Gvs F_has_joint [(eL eD) v_joints, eI v_k] (t_has_joint v_joints v_k) eB := gvs_of rfl fun S0 => by
  unfold M_has_joint t_has_joint
  exact (sr_ret (xe_and (xe_bin (xe_var eI rfl) (xe_call1 (xe_var (eL eD) rfl) (fun _ => g_lenL)) op_lt) (xe_isNotND (xe_bin (xe_var (eL eD) rfl) (xe_var eI rfl) op_ixL))))
def t_is_between (v_joint : (Int × Int)) (v_x : Int) (v_y : Int) : Option Bool :=
  (((some v_joint)).bind fun x1 => ((((((((some v_x)).bind fun x3 => ((some v_y)).bind fun x4 => some (x3, x4))).bind fun x7 => ((((some v_y)).bind fun x5 => ((some v_x)).bind fun x6 => some (x5, x6))).bind fun x8 => some (x7, x8))).bind fun x9 => some [x9.1, x9.2])).bind fun x2 => some (decide (x1 ∈ x2)))
theorem s_is_between (v_joint : (Int × Int)) (v_x : Int) (v_y : Int) : Gvs F_is_between [(eT2 eI eI) v_joint, eI v_x, eI v_y] (t_is_between v_joint v_x v_y) eB := gvs_of rfl fun S0 => by
  unfold M_is_between t_is_between
  exact (sr_ret (xe_bin (xe_var (eT2 eI eI) rfl) (xe_map (B := (eV (eT2 eI eI))) (f := fun x9 => [x9.1, x9.2]) (xe_tup2 (C := (eT2 (eT2 eI eI) (eT2 eI eI))) (fun x7 x8 => (x7, x8)) (xe_tup2 (C := (eT2 eI eI)) (fun x3 x4 => (x3, x4)) (xe_var eI rfl) (xe_var eI rfl) (fun _ _ => rfl)) (xe_tup2 (C := (eT2 eI eI)) (fun x5 x6 => (x5, x6)) (xe_var eI rfl) (xe_var eI rfl) (fun _ _ => rfl)) (fun _ _ => rfl)) (fun _ => rfl)) (op_inPV (faT2 faI faI) (by decide))))
def t_is_within (v_joint : D) (v_some : (List Int)) : Option Bool :=
  (((((((((((some v_joint)).bind fun x9 => asV x9)).bind fun x10 => ((some (0 : Int))).bind fun x11 => atT x10 x11)).bind fun x12 => asI x12)).bind fun x7 => ((some v_some)).bind fun x8 => some (decide (x7 ∈ x8)))).bind fun x13 => cond x13 (((((((((some v_joint)).bind fun x3 => asV x3)).bind fun x4 => ((some (1 : Int))).bind fun x5 => atT x4 x5)).bind fun x6 => asI x6)).bind fun x1 => ((some v_some)).bind fun x2 => some (decide (x1 ∈ x2))) (some false))
theorem s_is_within (v_joint : D) (v_some : (List Int)) : Gvs F_is_within [eD v_joint, (eV eI) v_some] (t_is_within v_joint v_some) eB := gvs_of rfl fun S0 => by
  unfold M_is_within t_is_within
  exact (sr_ret (xe_and (xe_bin (xe_view as_I (xe_bin (xe_view as_V (xe_var eD rfl)) (xe_c eI rfl) op_ixV)) (xe_var (eV eI) rfl) op_inV) (xe_bin (xe_view as_I (xe_bin (xe_view as_V (xe_var eD rfl)) (xe_c eI rfl) op_ixV)) (xe_var (eV eI) rfl) op_inV)))
def t_can_be_done (v_joints : (List D)) (v_reduction : D) : Option Bool :=
  (((((((((some v_reduction)).bind fun x2 => asV x2)).bind fun x3 => ((some (0 : Int))).bind fun x4 => atT x3 x4)).bind fun x5 => ((some (Str.ofString "beside"))).bind fun x6 => eqS x5 x6)).bind fun x1 => cond x1 (((((some v_reduction)).bind fun x8 => asT3 x8)).bind fun x7 => (((((some v_joints)).bind fun x35 => ((((some x7.2.1)).bind fun x34 => asI x34)).bind fun x36 => t_has_joint x35 x36)).bind fun x37 => cond x37 (((((some v_joints)).bind fun x31 => ((((some x7.2.2)).bind fun x30 => asI x30)).bind fun x32 => t_has_joint x31 x32)).bind fun x33 => cond x33 (((((((some v_joints)).bind fun x10 => ((((some x7.2.1)).bind fun x9 => asI x9)).bind fun x11 => atT x10 x11)).bind fun x12 => (asT2o asI asI) x12)).bind fun x27 => ((((((((((some v_joints)).bind fun x14 => ((((some x7.2.2)).bind fun x13 => asI x13)).bind fun x15 => atT x14 x15)).bind fun x16 => asV x16)).bind fun x17 => ((some (0 : Int))).bind fun x18 => atT x17 x18)).bind fun x19 => asI x19)).bind fun x28 => ((((((((((some v_joints)).bind fun x21 => ((((some x7.2.2)).bind fun x20 => asI x20)).bind fun x22 => atT x21 x22)).bind fun x23 => asV x23)).bind fun x24 => ((some (1 : Int))).bind fun x25 => atT x24 x25)).bind fun x26 => asI x26)).bind fun x29 => t_is_between x27 x28 x29) (some false)) (some false))) (((((((((some v_reduction)).bind fun x39 => asV x39)).bind fun x40 => ((some (0 : Int))).bind fun x41 => atT x40 x41)).bind fun x42 => ((some (Str.ofString "behind"))).bind fun x43 => eqS x42 x43)).bind fun x38 => cond x38 (((((some v_joints)).bind fun x49 => ((((((((some v_reduction)).bind fun x45 => asV x45)).bind fun x46 => ((some (1 : Int))).bind fun x47 => atT x46 x47)).bind fun x48 => asI x48)).bind fun x50 => t_far_ends x49 x50)).bind fun x44 => (((((((some x44)).bind fun x57 => some (x57.length : Int))).bind fun x58 => ((some (2 : Int))).bind fun x59 => some (decide (x58 = x59)))).bind fun x60 => cond x60 (((((some x44)).bind fun x51 => ((some (0 : Int))).bind fun x52 => atT x51 x52)).bind fun x55 => ((((some x44)).bind fun x53 => ((some (1 : Int))).bind fun x54 => atT x53 x54)).bind fun x56 => some (!decide (x55 = x56))) (some false))) (((((some v_reduction)).bind fun x62 => asT3 x62)).bind fun x61 => (((((some v_joints)).bind fun x65 => ((((some x61.2.2)).bind fun x64 => (asVo asI) x64)).bind fun x66 => t_joints_touching x65 x66)).bind fun x63 => (((((((some x63)).bind fun x79 => some (x79.length : Int))).bind fun x80 => ((some (0 : Int))).bind fun x81 => some (decide (x81 < x80)))).bind fun x82 => cond x82 (((((some x63)).bind fun x77 => compM (fun a67 => (some true)) (fun a67 => (((((some v_joints)).bind fun x68 => ((some a67)).bind fun x69 => atT x68 x69)).bind fun x75 => ((((((some x61.2.2)).bind fun x70 => (asVo asI) x70)).bind fun x73 => ((((((some x61.2.1)).bind fun x71 => asI x71)).bind fun x72 => some [x72])).bind fun x74 => extM x73 x74)).bind fun x76 => t_is_within x75 x76)) x77)).bind fun x78 => some (x78.all id)) (some false))))))
theorem s_can_be_done (v_joints : (List D)) (v_reduction : D) : Gvs F_can_be_done [(eL eD) v_joints, eD v_reduction] (t_can_be_done v_joints v_reduction) eB := gvs_of rfl fun S0 => by
  unfold M_can_be_done t_can_be_done
  exact (sr_ifr (xt_B (xe_bin (xe_bin (xe_view as_V (xe_var eD rfl)) (xe_c eI rfl) op_ixV) (xe_c eS rfl) op_eqDS)) (sr_seqN (sn_asgG (xe_view as_T3 (xe_var eD rfl)) (fun x7 => (xg_tup (xgs_cons xg_name (xgs_cons xg_name (xgs_cons xg_name xgs_nil))) rfl))) (fun x7 => (sr_ret (xe_and (xe_call2 (xe_var (eL eD) rfl) (xe_view as_I (xe_var eD rfl)) (fun _ _ => s_has_joint _ _)) (xe_and (xe_call2 (xe_var (eL eD) rfl) (xe_view as_I (xe_var eD rfl)) (fun _ _ => s_has_joint _ _)) (xe_call3 (xe_view (as_T2o as_I as_I) (xe_bin (xe_var (eL eD) rfl) (xe_view as_I (xe_var eD rfl)) op_ixL)) (xe_view as_I (xe_bin (xe_view as_V (xe_bin (xe_var (eL eD) rfl) (xe_view as_I (xe_var eD rfl)) op_ixL)) (xe_c eI rfl) op_ixV)) (xe_view as_I (xe_bin (xe_view as_V (xe_bin (xe_var (eL eD) rfl) (xe_view as_I (xe_var eD rfl)) op_ixL)) (xe_c eI rfl) op_ixV)) (fun _ _ _ => s_is_between _ _ _))))))) (sr_ifr (xt_B (xe_bin (xe_bin (xe_view as_V (xe_var eD rfl)) (xe_c eI rfl) op_ixV) (xe_c eS rfl) op_eqDS)) (sr_seqN (sn_asg (xe_call2 (xe_var (eL eD) rfl) (xe_view as_I (xe_bin (xe_view as_V (xe_var eD rfl)) (xe_c eI rfl) op_ixV)) (fun _ _ => s_far_ends _ _))) (fun x44 => (sr_ret (xe_and (xe_bin (xe_call1 (xe_var (eL eI) rfl) (fun _ => g_lenL)) (xe_c eI rfl) (op_eq_ faI (by decide))) (xe_bin (xe_bin (xe_var (eL eI) rfl) (xe_c eI rfl) op_ixL) (xe_bin (xe_var (eL eI) rfl) (xe_c eI rfl) op_ixL) (op_ne_ faI (by decide))))))) (sr_seqN (sn_asgG (xe_view as_T3 (xe_var eD rfl)) (fun x61 => (xg_tup (xgs_cons xg_name (xgs_cons xg_name (xgs_cons xg_name xgs_nil))) rfl))) (fun x61 => (sr_seqN (sn_asg (xe_call2 (xe_var (eL eD) rfl) (xe_view (as_Vo as_I) (xe_var eD rfl)) (fun _ _ => s_joints_touching _ _))) (fun x63 => (sr_ret (xe_and (xe_bin (xe_call1 (xe_var (eL eI) rfl) (fun _ => g_lenL)) (xe_c eI rfl) op_gt) (xe_call1 (xe_lc (xi_L (xe_var (eL eI) rfl)) (fun a67 => xg_name) (fun a67 => xt_yes) (fun a67 => (xe_call2 (xe_bin (xe_var (eL eD) rfl) (xe_var eI rfl) op_ixL) (xe_bin (xe_view (as_Vo as_I) (xe_var eD rfl)) (xe_tup1 (C := (eV eI)) (fun x72 => [x72]) (xe_view as_I (xe_var eD rfl)) (fun _ => rfl)) op_catV) (fun _ _ => s_is_within _ _)))) (fun _ => g_all))))))))))
def t_is_reduced (v_mine : (Int × (List (Int × Int)) × Int × Int)) (v_joints : (List D)) : Option Bool :=
  (((((some v_joints)).bind fun x4 => compM (fun a2 => (((some a2)).bind fun x3 => some (!x3.isNon))) (fun a2 => (some a2)) x4)).bind fun x1 => (((((((some x1)).bind fun x13 => some (x13.length : Int))).bind fun x14 => ((some (1 : Int))).bind fun x15 => some (decide (x14 = x15)))).bind fun x16 => cond x16 (((((((some x1)).bind fun x5 => ((some (0 : Int))).bind fun x6 => atT x5 x6)).bind fun x7 => (asT2o asI asI) x7)).bind fun x10 => ((((some v_mine)).bind fun x8 => some x8.2.2.1)).bind fun x11 => ((((some v_mine)).bind fun x9 => some x9.2.2.2)).bind fun x12 => t_is_between x10 x11 x12) (some false)))
theorem s_is_reduced (v_mine : (Int × (List (Int × Int)) × Int × Int)) (v_joints : (List D)) : Gvs F_is_reduced [(eT4 eI (eV (eT2 eI eI)) eI eI) v_mine, (eL eD) v_joints] (t_is_reduced v_mine v_joints) eB := gvs_of rfl fun S0 => by
  unfold M_is_reduced t_is_reduced
  exact (sr_seqN (sn_asg (xe_lc (xi_L (xe_var (eL eD) rfl)) (fun a2 => xg_name) (fun a2 => (xt_B (xe_isNotND (xe_var eD rfl)))) (fun a2 => (xe_var eD rfl)))) (fun x1 => (sr_ret (xe_and (xe_bin (xe_call1 (xe_var (eL eD) rfl) (fun _ => g_lenL)) (xe_c eI rfl) (op_eq_ faI (by decide))) (xe_call3 (xe_view (as_T2o as_I as_I) (xe_bin (xe_var (eL eD) rfl) (xe_c eI rfl) op_ixL)) (xe_ixF (B := eI) (f := fun x8 => x8.2.2.1) (xe_var (eT4 eI (eV (eT2 eI eI)) eI eI) rfl) (fun _ _ => rfl)) (xe_ixF (B := eI) (f := fun x9 => x9.2.2.2) (xe_var (eT4 eI (eV (eT2 eI eI)) eI eI) rfl) (fun _ _ => rfl)) (fun _ _ _ => s_is_between _ _ _))))))
def t_can_reduce (v_mine : (Int × (List (Int × Int)) × Int × Int)) (v_reductions : (List D)) : Option (Option Int) :=
  (((((((((some v_mine)).bind fun x2 => some x2.2.1)).bind fun x3 => some x3)).bind fun x4 => some (x4.map (eT2 eI eI)))).bind fun x1 => (((((((some v_reductions)).bind fun x6 => some (enumI x6))).bind fun x8 => loopR (fun a7 (s5 : (List D)) => (((((((some s5)).bind fun x10 => ((some a7.2)).bind fun x11 => t_can_be_done x10 x11)).bind fun x12 => some (!x12))).bind fun x9 => cond x9 (((((some a7.1)).bind fun x13 => some (some x13))).bind fun x18 => some (Out.rt x18)) (((((((some s5)).bind fun x15 => ((some a7.2)).bind fun x16 => t_after_reduction x15 x16)).bind fun x14 => some x14)).bind fun x17 => some (Out.nx x17)))) x8 x1)).bind fun o25 => o25.fin (fun s19 => (((((some v_mine)).bind fun x20 => ((some s19)).bind fun x21 => t_is_reduced x20 x21)).bind fun x24 => cond x24 (some (none : (Option Int))) (((((some v_reductions)).bind fun x22 => some (x22.length : Int))).bind fun x23 => some (some x23)))) some))
theorem s_can_reduce (v_mine : (Int × (List (Int × Int)) × Int × Int)) (v_reductions : (List D)) : Gvs F_can_reduce [(eT4 eI (eV (eT2 eI eI)) eI eI) v_mine, (eV eD) v_reductions] (t_can_reduce v_mine v_reductions) (eO eI) := gvs_of rfl fun S0 => by
  unfold M_can_reduce t_can_reduce
  exact (sr_seqN (sn_asg (xe_map (B := (eL eD)) (f := fun x4 => x4.map (eT2 eI eI)) (xe_call1 (xe_ixF (B := (eV (eT2 eI eI))) (f := fun x2 => x2.2.1) (xe_var (eT4 eI (eV (eT2 eI eI)) eI eI) rfl) (fun _ _ => rfl)) (fun _ => g_listV)) (fun z => congrArg D.lst (List.map_id' _).symm))) (fun x1 => (sr_seqB (sb_for (slσ := fun s5 : (List D) => [.val ((eT4 eI (eV (eT2 eI eI)) eI eI) v_mine), .val ((eV eD) v_reductions), .val ((eL eD) s5), .unk, .unk]) (xi_enumV (xe_var (eV eD) rfl)) (.keep (.keep (.keep (.keep (.keep .nil))))) (fun s5 a7 => (xg_tup (xgs_cons xg_name (xgs_cons xg_name xgs_nil)) rfl)) (fun s5 a7 => (sb_ifr (xt_not (xt_B (xe_call2 (xe_var (eL eD) rfl) (xe_var eD rfl) (fun _ _ => s_can_be_done _ _)))) (sr_ret (xe_map (B := (eO eI)) (f := fun x => some x) (xe_var eI rfl) (fun _ => rfl))) (sb_N (sn_st (f := fun x14 => x14) (sl' := fun s5 : (List D) => [.val ((eT4 eI (eV (eT2 eI eI)) eI eI) v_mine), .val ((eV eD) v_reductions), .val ((eL eD) s5), .unk, .unk]) (sn_asg (xe_call2 (xe_var (eL eD) rfl) (xe_var eD rfl) (fun _ _ => s_after_reduction _ _))) (fun x14 => (.keep (.keep (.keep (.drop (.drop .nil))))))))))) (fun s19 => (sr_ret (xe_if (xt_B (xe_call2 (xe_var (eT4 eI (eV (eT2 eI eI)) eI eI) rfl) (xe_var (eL eD) rfl) (fun _ _ => s_is_reduced _ _))) (xe_c (eO eI) rfl) (xe_map (B := (eO eI)) (f := fun x => some x) (xe_call1 (xe_var (eV eD) rfl) (fun _ => g_lenV)) (fun _ => rfl))))))))
def t_law_inner (v_mine : (Int × (List (Int × Int)) × Int × Int)) : Option (List Int) :=
  (((((((some v_mine)).bind fun x1 => some x1.1)).bind fun x2 => rng1 x2)).bind fun x8 => compM (fun a3 => (((some a3)).bind fun x4 => ((((((some v_mine)).bind fun x6 => some (x6.2.2.1, x6.2.2.2))).bind fun x7 => some [x7.1, x7.2])).bind fun x5 => some (!decide (x4 ∈ x5)))) (fun a3 => (some a3)) x8)
theorem s_law_inner (v_mine : (Int × (List (Int × Int)) × Int × Int)) : Gvs F_law_inner [(eT4 eI (eV (eT2 eI eI)) eI eI) v_mine] (t_law_inner v_mine) (eL eI) := gvs_of rfl fun S0 => by
  unfold M_law_inner t_law_inner
  exact (sr_ret (xe_lc (xi_range1 (xe_ixF (B := eI) (f := fun x1 => x1.1) (xe_var (eT4 eI (eV (eT2 eI eI)) eI eI) rfl) (fun _ _ => rfl))) (fun a3 => xg_name) (fun a3 => (xt_B (xe_bin (xe_var eI rfl) (xe_map (B := (eV eI)) (f := fun x7 => [x7.1, x7.2]) (xe_slF (B := (eT2 eI eI)) (f := fun x6 => (x6.2.2.1, x6.2.2.2)) (xe_var (eT4 eI (eV (eT2 eI eI)) eI eI) rfl) (xp_some (xe_c eI rfl)) xp_none (fun _ _ => rfl)) (fun _ => rfl)) op_notInV))) (fun a3 => (xe_var eI rfl))))
def t_law_made (v_mine : (Int × (List (Int × Int)) × Int × Int)) (v_joints : (List (Int × (Int × Int)))) (v_reduction : D) : Option (List D) :=
  (((((((some v_mine)).bind fun x2 => t_law_inner x2)).bind fun x6 => ((((((some v_reduction)).bind fun x3 => asV x3)).bind fun x4 => ((some (1 : Int))).bind fun x5 => atT x4 x5)).bind fun x7 => some (x6, x7))).bind fun x1 => (((((((((some v_reduction)).bind fun x9 => asV x9)).bind fun x10 => ((some (0 : Int))).bind fun x11 => atT x10 x11)).bind fun x12 => ((some (Str.ofString "beside"))).bind fun x13 => eqS x12 x13)).bind fun x8 => cond x8 (((((((((((some v_reduction)).bind fun x15 => asV x15)).bind fun x17 => ((((some (1 : Int))).bind fun x16 => some (some x16))).bind fun x18 => ((some none)).bind fun x19 => some (cutT x17 x18 x19))).bind fun x20 => some ((eV eD) x20))).bind fun x21 => (asT2o asI asI) x21)).bind fun x14 => (((((((some x14.1)).bind fun x28 => ((some x14.2)).bind fun x29 => some (decide (x29 ≤ x28)))).bind fun x30 => cond x30 (some true) (((((some x14.1)).bind fun x25 => some (!(v_joints.lookup x25).isSome))).bind fun x27 => cond x27 (some true) (((some x14.2)).bind fun x23 => some (!(v_joints.lookup x23).isSome))))).bind fun x22 => cond x22 (some ([] : (List D))) (((((((((((some x14.1)).bind fun x32 => v_joints.lookup x32)).bind fun x33 => some [x33.1, x33.2])).bind fun x34 => cond (Nat.blt x34.length 64) (some (sortI x34)) none)).bind fun x38 => ((((((((some x14.2)).bind fun x35 => v_joints.lookup x35)).bind fun x36 => some [x36.1, x36.2])).bind fun x37 => cond (Nat.blt x37.length 64) (some (sortI x37)) none)).bind fun x39 => some (!decide (x38 = x39)))).bind fun x31 => cond x31 (some ([] : (List D))) (((((((((some x14.1)).bind fun x42 => some (eI x42))).bind fun x44 => ((((some x14.2)).bind fun x43 => some (eI x43))).bind fun x45 => some [x44, x45])).bind fun x46 => some ((eL eD) x46))).bind fun x49 => ((((((some x14.1)).bind fun x47 => v_joints.lookup x47)).bind fun x48 => some ((eT2 eI eI) x48))).bind fun x50 => some [x49, x50])))) (((((((((some v_reduction)).bind fun x52 => asV x52)).bind fun x53 => ((some (0 : Int))).bind fun x54 => atT x53 x54)).bind fun x55 => ((some (Str.ofString "behind"))).bind fun x56 => eqS x55 x56)).bind fun x51 => cond x51 (((((cond (Nat.blt v_joints.length 64) (some (sortI (v_joints.map (·.1)))) none)).bind fun x64 => compM (fun a58 => (((((some x1.2)).bind fun x63 => asI x63)).bind fun x59 => ((((((some a58)).bind fun x61 => v_joints.lookup x61)).bind fun x62 => some [x62.1, x62.2])).bind fun x60 => some (decide (x59 ∈ x60)))) (fun a58 => (some a58)) x64)).bind fun x57 => (((((some x57)).bind fun x77 => compM (fun a66 => (some true)) (fun a66 => (((((((((some a66)).bind fun x67 => v_joints.lookup x67)).bind fun x68 => some x68.1)).bind fun x70 => ((((some x1.2)).bind fun x69 => asI x69)).bind fun x71 => some (decide (x70 = x71)))).bind fun x76 => cond x76 (((((some a66)).bind fun x72 => v_joints.lookup x72)).bind fun x73 => some x73.2) (((((some a66)).bind fun x74 => v_joints.lookup x74)).bind fun x75 => some x75.1))) x77)).bind fun x65 => (((((((((some x1.2)).bind fun x91 => asI x91)).bind fun x89 => ((some x1.1)).bind fun x90 => some (!decide (x89 ∈ x90)))).bind fun x92 => cond x92 (some true) (((((((some x57)).bind fun x85 => some (x85.length : Int))).bind fun x86 => ((some (2 : Int))).bind fun x87 => some (!decide (x86 = x87)))).bind fun x88 => cond x88 (some true) (((((some x65)).bind fun x79 => ((some (0 : Int))).bind fun x80 => atT x79 x80)).bind fun x83 => ((((some x65)).bind fun x81 => ((some (1 : Int))).bind fun x82 => atT x81 x82)).bind fun x84 => some (decide (x83 = x84)))))).bind fun x78 => cond x78 (some ([] : (List D))) (((((some x57)).bind fun x93 => some ((eL eI) x93))).bind fun x96 => ((((((some x65)).bind fun x94 => some x94)).bind fun x95 => some ((eV eI) x95))).bind fun x97 => some [x96, x97])))) (((((((((((some v_reduction)).bind fun x99 => asV x99)).bind fun x100 => ((some (2 : Int))).bind fun x101 => atT x100 x101)).bind fun x102 => (asVo asI) x102)).bind fun x103 => ((some ([] : List Int))).bind fun x104 => some (x103, x104))).bind fun x98 => (((((cond (Nat.blt v_joints.length 64) (some (sortI (v_joints.map (·.1)))) none)).bind fun x116 => compM (fun a106 => (((((((((some a106)).bind fun x113 => v_joints.lookup x113)).bind fun x114 => some x114.1)).bind fun x111 => ((some x98.1)).bind fun x112 => some (decide (x111 ∈ x112)))).bind fun x115 => cond x115 (some true) (((((((some a106)).bind fun x109 => v_joints.lookup x109)).bind fun x110 => some x110.2)).bind fun x107 => ((some x98.1)).bind fun x108 => some (decide (x107 ∈ x108))))) (fun a106 => (some a106)) x116)).bind fun x105 => (((((some x105)).bind fun x119 => loopN (fun a118 (s117 : (List Int)) => (((((((((((some a118)).bind fun x122 => v_joints.lookup x122)).bind fun x123 => some [x123.1, x123.2])).bind fun x124 => some x124)).bind fun x121 => extM s117 x121)).bind fun x120 => some x120)) x119 x98.2)).bind fun s125 => (((compM (fun a127 => (((((some a127)).bind fun x131 => ((some x98.1)).bind fun x132 => some (!decide (x131 ∈ x132)))).bind fun x133 => cond x133 (((some a127)).bind fun x129 => ((((some x1.2)).bind fun x128 => asI x128)).bind fun x130 => some (!decide (x129 = x130))) (some false))) (fun a127 => (some a127)) s125)).bind fun x126 => (((((((((some x1.2)).bind fun x141 => asI x141)).bind fun x139 => ((some x98.1)).bind fun x140 => some (decide (x139 ∈ x140)))).bind fun x142 => cond x142 (some true) (((((some x105)).bind fun x136 => ((some ([] : (List Int)))).bind fun x137 => some (decide (x136 = x137)))).bind fun x138 => cond x138 (some true) (((some ([] : (List Int)))).bind fun x135 => some (!decide (x126 = x135)))))).bind fun x134 => cond x134 (some ([] : (List D))) (((((((some x98.1)).bind fun x147 => compM (fun a144 => (((some a144)).bind fun x145 => ((some x1.1)).bind fun x146 => some (!decide (x145 ∈ x146)))) (fun a144 => (some a144)) x147)).bind fun x148 => ((some ([] : (List Int)))).bind fun x149 => some (!decide (x148 = x149)))).bind fun x143 => cond x143 (some ([] : (List D))) (((((some x105)).bind fun x150 => some ((eL eI) x150))).bind fun x151 => ((some D.non)).bind fun x152 => some [x151, x152]))))))))))
theorem s_law_made (n : Nat) (v_mine : (Int × (List (Int × Int)) × Int × Int)) (v_joints : (List (Int × (Int × Int)))) (v_reduction : D) : GvK n (dkO (eT2 eI eI) v_joints) F_law_made [(eT4 eI (eV (eT2 eI eI)) eI eI) v_mine, D.lr n, eD v_reduction] (t_law_made v_mine v_joints v_reduction) (eL eD) := gvk_of rfl fun S0 hd => by
  unfold M_law_made t_law_made
  exact (sr_seqN (sn_asgG (xe_tup2 (C := (eT2 (eL eI) eD)) (fun x6 x7 => (x6, x7)) (xe_call1 (xe_var (eT4 eI (eV (eT2 eI eI)) eI eI) rfl) (fun _ => s_law_inner _)) (xe_bin (xe_view as_V (xe_var eD rfl)) (xe_c eI rfl) op_ixV) (fun _ _ => rfl)) (fun x1 => (xg_tup (xgs_cons xg_name (xgs_cons xg_name xgs_nil)) rfl))) (fun x1 => (sr_ifr (xt_B (xe_bin (xe_bin (xe_view as_V (xe_var eD rfl)) (xe_c eI rfl) op_ixV) (xe_c eS rfl) op_eqDS)) (sr_seqN (sn_asgG (xe_view (as_T2o as_I as_I) (xe_map (B := eD) (f := (eV eD)) (xe_slV (xe_view as_V (xe_var eD rfl)) (xp_some (xe_c eI rfl)) xp_none) (fun _ => rfl))) (fun x14 => (xg_tup (xgs_cons xg_name (xgs_cons xg_name xgs_nil)) rfl))) (fun x14 => (sr_ifr (xt_or (xt_B (xe_bin (xe_var eI rfl) (xe_var eI rfl) op_ge)) (xt_or (xt_B (xe_din (A := (eT2 eI eI)) (js := v_joints) (neg := true) hd rfl (xe_var eI rfl))) (xt_B (xe_din (A := (eT2 eI eI)) (js := v_joints) (neg := true) hd rfl (xe_var eI rfl))))) (sr_ret (xe_lst0 (C := (eL eD)) ([] : (List D))  rfl)) (sr_ifr (xt_B (xe_bin (xe_call1 (xe_map (B := (eV eI)) (f := fun x33 => [x33.1, x33.2]) (xe_dix (A := (eT2 eI eI)) (js := v_joints) hd rfl (xe_var eI rfl)) (fun _ => rfl)) (fun _ => g_sortedV)) (xe_call1 (xe_map (B := (eV eI)) (f := fun x36 => [x36.1, x36.2]) (xe_dix (A := (eT2 eI eI)) (js := v_joints) hd rfl (xe_var eI rfl)) (fun _ => rfl)) (fun _ => g_sortedV)) (op_ne_ (faL faI) (by decide)))) (sr_ret (xe_lst0 (C := (eL eD)) ([] : (List D))  rfl)) (sr_ret (xe_lst2 (C := (eL eD)) (fun x49 x50 => [x49, x50]) (xe_map (B := eD) (f := (eL eD)) (xe_lst2 (C := (eL eD)) (fun x44 x45 => [x44, x45]) (xe_map (B := eD) (f := eI) (xe_var eI rfl) (fun _ => rfl)) (xe_map (B := eD) (f := eI) (xe_var eI rfl) (fun _ => rfl)) (fun _ _ => rfl)) (fun _ => rfl)) (xe_map (B := eD) (f := (eT2 eI eI)) (xe_dix (A := (eT2 eI eI)) (js := v_joints) hd rfl (xe_var eI rfl)) (fun _ => rfl)) (fun _ _ => rfl))))))) (sr_ifr (xt_B (xe_bin (xe_bin (xe_view as_V (xe_var eD rfl)) (xe_c eI rfl) op_ixV) (xe_c eS rfl) op_eqDS)) (sr_seqN (sn_asg (xe_lc (xi_L (xe_dsorted (A := (eT2 eI eI)) (js := v_joints) hd rfl)) (fun a58 => xg_name) (fun a58 => (xt_B (xe_bin (xe_view as_I (xe_var eD rfl)) (xe_map (B := (eV eI)) (f := fun x62 => [x62.1, x62.2]) (xe_dix (A := (eT2 eI eI)) (js := v_joints) hd rfl (xe_var eI rfl)) (fun _ => rfl)) op_inV))) (fun a58 => (xe_var eI rfl)))) (fun x57 => (sr_seqN (sn_asg (xe_lc (xi_L (xe_var (eL eI) rfl)) (fun a66 => xg_name) (fun a66 => xt_yes) (fun a66 => (xe_if (xt_B (xe_bin (xe_ixF (B := eI) (f := fun x68 => x68.1) (xe_dix (A := (eT2 eI eI)) (js := v_joints) hd rfl (xe_var eI rfl)) (fun _ _ => rfl)) (xe_view as_I (xe_var eD rfl)) (op_eq_ faI (by decide)))) (xe_ixF (B := eI) (f := fun x73 => x73.2) (xe_dix (A := (eT2 eI eI)) (js := v_joints) hd rfl (xe_var eI rfl)) (fun _ _ => rfl)) (xe_ixF (B := eI) (f := fun x75 => x75.1) (xe_dix (A := (eT2 eI eI)) (js := v_joints) hd rfl (xe_var eI rfl)) (fun _ _ => rfl)))))) (fun x65 => (sr_ifr (xt_or (xt_B (xe_bin (xe_view as_I (xe_var eD rfl)) (xe_var (eL eI) rfl) op_notInL)) (xt_or (xt_B (xe_bin (xe_call1 (xe_var (eL eI) rfl) (fun _ => g_lenL)) (xe_c eI rfl) (op_ne_ faI (by decide)))) (xt_B (xe_bin (xe_bin (xe_var (eL eI) rfl) (xe_c eI rfl) op_ixL) (xe_bin (xe_var (eL eI) rfl) (xe_c eI rfl) op_ixL) (op_eq_ faI (by decide)))))) (sr_ret (xe_lst0 (C := (eL eD)) ([] : (List D))  rfl)) (sr_ret (xe_lst2 (C := (eL eD)) (fun x96 x97 => [x96, x97]) (xe_map (B := eD) (f := (eL eI)) (xe_var (eL eI) rfl) (fun _ => rfl)) (xe_map (B := eD) (f := (eV eI)) (xe_call1 (xe_var (eL eI) rfl) (fun _ => g_tupleL)) (fun _ => rfl)) (fun _ _ => rfl)))))))) (sr_seqN (sn_asgT2 (xs_val (xe_view (as_Vo as_I) (xe_bin (xe_view as_V (xe_var eD rfl)) (xe_c eI rfl) op_ixV))) (xs_own (A := eI) xo_nil) (fun _ z => nomatch z) (fun _ z => nomatch z) (by decide)) (fun x98 => (sr_seqN (sn_asg (xe_lc (xi_L (xe_dsorted (A := (eT2 eI eI)) (js := v_joints) hd rfl)) (fun a106 => xg_name) (fun a106 => (xt_or (xt_B (xe_bin (xe_ixF (B := eI) (f := fun x114 => x114.1) (xe_dix (A := (eT2 eI eI)) (js := v_joints) hd rfl (xe_var eI rfl)) (fun _ _ => rfl)) (xe_var (eV eI) rfl) op_inV)) (xt_B (xe_bin (xe_ixF (B := eI) (f := fun x110 => x110.2) (xe_dix (A := (eT2 eI eI)) (js := v_joints) hd rfl (xe_var eI rfl)) (fun _ _ => rfl)) (xe_var (eV eI) rfl) op_inV)))) (fun a106 => (xe_var eI rfl)))) (fun x105 => (sr_seqN (sn_for (slσ := fun s117 : (List Int) => [.val ((eT4 eI (eV (eT2 eI eI)) eI eI) v_mine), .val ((fun _ => D.lr n) v_joints), .val (eD v_reduction), .val ((eL eI) x105), .unk, .own ((s117).map eI), .val ((eL eI) x1.1), .val (eD x1.2), .unk, .val ((eV eI) x98.1), .unk, .unk, .unk, .unk]) (xi_L (xe_var (eL eI) rfl)) (.keep (.keep (.keep (.keep (.keep (.keep (.keep (.keep (.keep (.keep (.keep (.keep (.keep (.keep .nil)))))))))))))) (fun s117 a118 => xg_name) (fun s117 a118 => (sn_st (f := fun x120 => x120) (sl' := fun s117 : (List Int) => [.val ((eT4 eI (eV (eT2 eI eI)) eI eI) v_mine), .val ((fun _ => D.lr n) v_joints), .val (eD v_reduction), .val ((eL eI) x105), .unk, .own ((s117).map eI), .val ((eL eI) x1.1), .val (eD x1.2), .unk, .val ((eV eI) x98.1), .unk, .unk, .unk, .unk]) (sn_ext (A := eI) (xs := s117) rfl (xe_call1 (xe_map (B := (eV eI)) (f := fun x123 => [x123.1, x123.2]) (xe_dix (A := (eT2 eI eI)) (js := v_joints) hd rfl (xe_var eI rfl)) (fun _ => rfl)) (fun _ => g_listV))) (fun x120 => (.keep (.keep (.keep (.keep (.drop (.keep (.keep (.keep (.keep (.keep (.keep (.keep (.keep (.keep .nil)))))))))))))))))) (fun s125 => (sr_seqN (sn_own (A := eI) (xo_lcO (A := eI) (xs := s125) rfl (fun a127 => xg_name) (fun a127 => (xt_and (xt_B (xe_bin (xe_var eI rfl) (xe_var (eV eI) rfl) op_notInV)) (xt_B (xe_bin (xe_var eI rfl) (xe_view as_I (xe_var eD rfl)) (op_ne_ faI (by decide)))))) (fun a127 => (xe_var eI rfl)))) (fun x126 => (sr_ifr (xt_or (xt_B (xe_bin (xe_view as_I (xe_var eD rfl)) (xe_var (eV eI) rfl) op_inV)) (xt_or (xt_B (xe_bin (xe_var (eL eI) rfl) (xe_lst0 (C := (eL eI)) ([] : (List Int))  rfl) (op_eq_ (faL faI) (by decide)))) (xt_B (xe_neO faI (by decide) (xs := x126) rfl (xe_lst0 (C := (eL eI)) ([] : (List Int))  rfl))))) (sr_ret (xe_lst0 (C := (eL eD)) ([] : (List D))  rfl)) (sr_ifr (xt_B (xe_bin (xe_lc (xi_V (xe_var (eV eI) rfl)) (fun a144 => xg_name) (fun a144 => (xt_B (xe_bin (xe_var eI rfl) (xe_var (eL eI) rfl) op_notInL))) (fun a144 => (xe_var eI rfl))) (xe_lst0 (C := (eL eI)) ([] : (List Int))  rfl) (op_ne_ (faL faI) (by decide)))) (sr_ret (xe_lst0 (C := (eL eD)) ([] : (List D))  rfl)) (sr_ret (xe_lst2 (C := (eL eD)) (fun x151 x152 => [x151, x152]) (xe_map (B := eD) (f := (eL eI)) (xe_var (eL eI) rfl) (fun _ => rfl)) (xe_c eD rfl) (fun _ _ => rfl)))))))))))))))))
def t_law_some_reduction (v_mine : (Int × (List (Int × Int)) × Int × Int)) (v_number : Int) : PM D :=
  (bP (bP (bP (lP (some (3 : Int))) fun x2 => (t_law_draw x2)) fun x5 => (bP (lP (((((some v_mine)).bind fun x3 => some x3.1)).bind fun x4 => lrg x4)) fun x6 => (lP (some (x5, x6))))) fun x1 => (bP (lP (((some x1.1)).bind fun x8 => ((some (0 : Int))).bind fun x9 => some (decide (x8 = x9)))) fun x7 => (cond x7 (bP (bP (lP (some v_number)) fun x11 => (t_law_draw x11)) fun x10 => (bP (bP (lP (some (Str.ofString "beside"))) fun x17 => (bP (lP (some x10)) fun x18 => (bP (bP (lP (((some x10)).bind fun x12 => ((some (1 : Int))).bind fun x13 => some (x12 + x13))) fun x15 => (bP (bP (lP (some (3 : Int))) fun x14 => (t_law_draw x14)) fun x16 => (lP (some (x15 + x16))))) fun x19 => (lP (some (x17, x18, x19)))))) fun x20 => (lP (some ((eT3 eS eI eI) x20))))) (bP (lP (((some v_mine)).bind fun x22 => t_law_inner x22)) fun x21 => (bP (lP (((((some x1.1)).bind fun x26 => ((some (1 : Int))).bind fun x27 => some (decide (x26 = x27)))).bind fun x28 => cond x28 (((some x21)).bind fun x24 => ((some ([] : (List Int)))).bind fun x25 => some (!decide (x24 = x25))) (some false))) fun x23 => (cond x23 (bP (bP (lP (some (Str.ofString "behind"))) fun x30 => (bP (bP (lP (some x21)) fun x29 => (t_law_one_of x29)) fun x31 => (lP (some (x30, x31))))) fun x32 => (lP (some ((eT2 eS eI) x32)))) (bP (bP (lP (some x21)) fun x38 => (compP (fun a34 => (bP (bP (lP (some (2 : Int))) fun x35 => (t_law_draw x35)) fun x36 => (bP (lP (some (0 : Int))) fun x37 => (lP (some (decide (x36 = x37))))))) (fun a34 => (lP (some a34))) x38)) fun x33 => (bP (bP (lP (((some x1.2)).bind fun x43 => compM (fun a40 => (((some a40)).bind fun x41 => ((some x33)).bind fun x42 => some (!decide (x41 ∈ x42)))) (fun a40 => (some a40)) x43)) fun x44 => (t_law_one_of x44)) fun x39 => (lP (((((some x33)).bind fun x45 => ((some ([] : (List Int)))).bind fun x46 => some (!decide (x45 = x46)))).bind fun x56 => cond x56 (((((some (Str.ofString "hung"))).bind fun x48 => ((some x39)).bind fun x49 => ((((some x33)).bind fun x47 => some x47)).bind fun x50 => some (x48, x49, x50))).bind fun x51 => some ((eT3 eS eI (eV eI)) x51)) (((((some (Str.ofString "beside"))).bind fun x52 => ((some (0 : Int))).bind fun x53 => ((some (1 : Int))).bind fun x54 => some (x52, x53, x54))).bind fun x55 => some ((eT3 eS eI eI) x55))))))))))))
theorem s_law_some_reduction (v_mine : (Int × (List (Int × Int)) × Int × Int)) (v_number : Int) : Gps F_law_some_reduction [(eT4 eI (eV (eT2 eI eI)) eI eI) v_mine, eI v_number] (t_law_some_reduction v_mine v_number) eD := gps_of rfl fun S0 p => by
  unfold M_law_some_reduction t_law_some_reduction
  exact (pr_seqN (pn_par (px_pcall1 rfl (px_of fun _ => (xe_c eI rfl)) (fun _ => s_law_draw _)) (px_of fun _ => (xe_fzO (xo_listRg (xe_ixF (B := eI) (f := fun x3 => x3.1) (xe_var (eT4 eI (eV (eT2 eI eI)) eI eI) rfl) (fun _ _ => rfl)))))) (fun x1 => (pr_ifr (pt_of fun _ => (xt_B (xe_bin (xe_var eI rfl) (xe_c eI rfl) (op_eq_ faI (by decide))))) (pr_seqN (pn_asg (px_pcall1 rfl (px_of fun _ => (xe_var eI rfl)) (fun _ => s_law_draw _))) (fun x10 => (pr_ret (px_map (B := eD) (f := (eT3 eS eI eI)) (px_tup3 (C := (eT3 eS eI eI)) (fun x17 x18 x19 => (x17, x18, x19)) (px_of fun _ => (xe_c eS rfl)) (px_of fun _ => (xe_var eI rfl)) (px_bin (px_of fun _ => (xe_bin (xe_var eI rfl) (xe_c eI rfl) op_add)) (px_pcall1 rfl (px_of fun _ => (xe_c eI rfl)) (fun _ => s_law_draw _)) op_add) (fun _ _ _ => rfl)) (fun _ => rfl))))) (pr_seqN (pn_of fun _ => (sn_asg (xe_call1 (xe_var (eT4 eI (eV (eT2 eI eI)) eI eI) rfl) (fun _ => s_law_inner _)))) (fun x21 => (pr_ifr (pt_of fun _ => (xt_and (xt_B (xe_bin (xe_var eI rfl) (xe_c eI rfl) (op_eq_ faI (by decide)))) (xt_B (xe_bin (xe_var (eL eI) rfl) (xe_lst0 (C := (eL eI)) ([] : (List Int))  rfl) (op_ne_ (faL faI) (by decide)))))) (pr_ret (px_map (B := eD) (f := (eT2 eS eI)) (px_tup2 (C := (eT2 eS eI)) (fun x30 x31 => (x30, x31)) (px_of fun _ => (xe_c eS rfl)) (px_pcall1 rfl (px_of fun _ => (xe_var (eL eI) rfl)) (fun _ => s_law_one_ofL _)) (fun _ _ => rfl)) (fun _ => rfl))) (pr_seqN (pn_asg (px_lc (pi_of fun _ => (xi_L (xe_var (eL eI) rfl))) (fun a34 _ => xg_name) (fun a34 => (pt_B (px_bin (px_pcall1 rfl (px_of fun _ => (xe_c eI rfl)) (fun _ => s_law_draw _)) (px_of fun _ => (xe_c eI rfl)) (op_eq_ faI (by decide))))) (fun a34 => (px_of fun _ => (xe_var eI rfl))))) (fun x33 => (pr_seqN (pn_asg (px_pcall1 rfl (px_of fun _ => (xe_lc (xi_L (xe_var (eL eI) rfl)) (fun a40 => xg_name) (fun a40 => (xt_B (xe_bin (xe_var eI rfl) (xe_var (eL eI) rfl) op_notInL))) (fun a40 => (xe_var eI rfl)))) (fun _ => s_law_one_ofL _))) (fun x39 => (pr_of fun _ => (sr_ret (xe_if (xt_B (xe_bin (xe_var (eL eI) rfl) (xe_lst0 (C := (eL eI)) ([] : (List Int))  rfl) (op_ne_ (faL faI) (by decide)))) (xe_map (B := eD) (f := (eT3 eS eI (eV eI))) (xe_tup3 (C := (eT3 eS eI (eV eI))) (fun x48 x49 x50 => (x48, x49, x50)) (xe_c eS rfl) (xe_var eI rfl) (xe_call1 (xe_var (eL eI) rfl) (fun _ => g_tupleL)) (fun _ _ _ => rfl)) (fun _ => rfl)) (xe_map (B := eD) (f := (eT3 eS eI eI)) (xe_tup3 (C := (eT3 eS eI eI)) (fun x52 x53 x54 => (x52, x53, x54)) (xe_c eS rfl) (xe_c eI rfl) (xe_c eI rfl) (fun _ _ _ => rfl)) (fun _ => rfl)))))))))))))))
end K16
set_option Elab.async false
set_option linter.all false
set_option maxRecDepth 100000
set_option maxHeartbeats 4000000
namespace K16
open PySem PySem.Spec PyProof.Rows L2 MS TM
abbrev J2 : Type := List (Int × (Int × Int))
abbrev eW2 : Int × Int → D := eT2 eI eI
def But (h : Nat) (S S' : Store) : Prop := ∀ (n : Nat) (x : MO), n ≠ h → S[n]? = some x → S'[n]? = some x
theorem But.refl {h : Nat} {S : Store} : But h S S := fun _ _ _ e => e
theorem But.trans {h : Nat} {S S' S'' : Store} (a : But h S S') (b : But h S' S'') : But h S S'' := fun n x k e => b n x k (a n x k e)
theorem But.all {h : Nat} {S S' : Store} (a : All S S') : But h S S' := fun n x _ e => a n x e
theorem But.set {h : Nat} {S : Store} {x : MO} : But h S (S.set h x) := fun n y k e => by
  rw [List.getElem?_set_ne (Ne.symm k)]
  exact e
def popsJ (js : J2) : List Int → Option J2
  | [] => some js
  | g :: gs => (js.lookup g).bind fun _ => popsJ (js.filter fun p => decide (p.1 ≠ g)) gs
theorem dropD_dkO {js : J2} {g : Int} : dropD (dkO eW2 js) (.inl g) = dkO eW2 (js.filter fun p => decide (p.1 ≠ g)) := by
  unfold dropD dkO
  rw [List.filter_map]
  congr 1
  apply List.filter_congr
  intro p _
  exact Bool.eq_iff_iff.mpr (by simp)
def putJ (js : J2) (k : Int) (w : Int × Int) : J2 := if (js.map (·.1)).contains k then js.map (fun p => if p.1 = k then (p.1, w) else p) else js ++ [(k, w)]
theorem putD_dkO {js : J2} {k : Int} {w : Int × Int} : putD (dkO eW2 js) (.inl k) (eW2 w) = dkO eW2 (putJ js k w) := by
  unfold putD putJ dkO
  have hc : ∀ (i : BEq Key) (_ : @LawfulBEq Key i), @List.contains Key i ((js.map fun p => ((Sum.inl p.1 : Key), eW2 p.2)).map (·.1)) (.inl k) = (js.map (·.1)).contains k := fun i _ => by
    rw [Bool.eq_iff_iff, List.contains_iff_mem, List.contains_iff_mem]
    simp
  rw [hc instBEqOfDecidableEq inferInstance]
  by_cases h : (js.map (·.1)).contains k = true
  · rw [if_pos h, if_pos h, List.map_map, List.map_map]
    apply List.map_congr_left
    intro p _
    show (if (Sum.inl p.1 : Key) = .inl k then ((Sum.inl p.1 : Key), eW2 w) else (Sum.inl p.1, eW2 p.2)) = (Sum.inl (if p.1 = k then (p.1, w) else p).1, eW2 (if p.1 = k then (p.1, w) else p).2)
    by_cases hk : p.1 = k
    · rw [if_pos hk, if_pos (congrArg Sum.inl hk)]
    · rw [if_neg hk, if_neg fun z => hk (Sum.inl.inj z)]
  · rw [if_neg h, if_neg h, List.map_append]
    rfl
def Rw (M R : D) (h : Nat) (num : Int) (a2 a5 a6 a7 a8 a9 a10 : Option D) : Ev := [some M, some R, a2, some (.lr h), some (.int num), a5, a6, a7, a8, a9, a10]
theorem pops_ok {M R : D} {h : Nat} {num : Int} {a2 a5 a6 a7 a9 a10 : Option D} : ∀ (gs : List Int) (js js' : J2) (a8 : Option D) (S : Store), popsJ js gs = some js' → S[h]? = some (.dk (dkO eW2 js)) →
    ∃ a8' S', forL always (mName 8) (mDrop (mDPop (mVar 3) (mVar 8))) (gs.map D.int) (Rw M R h num a2 a5 a6 a7 a8 a9 a10) S = some (.nx, Rw M R h num a2 a5 a6 a7 a8' a9 a10, S') ∧ S'[h]? = some (.dk (dkO eW2 js')) ∧ But h S S'
  | [], js, js', a8, S, e, hS => by
    cases e
    exact ⟨a8, S, rfl, hS, .refl⟩
  | g :: gs, js, js', a8, S, e, hS => by
    obtain ⟨w, e1, e2⟩ := bnd e
    have hlt : h < S.length := (List.getElem?_eq_some_iff.mp hS).1
    have hset : (S.set h (.dk (dropD (dkO eW2 js) (.inl g))))[h]? = some (.dk (dkO eW2 (js.filter fun p => decide (p.1 ≠ g)))) := by
      rw [List.getElem?_set_self hlt, dropD_dkO]
    obtain ⟨a8', S', q1, q2, q3⟩ := pops_ok gs _ _ (some (.int g)) _ e2 hset
    refine ⟨a8', S', ?_, q2, But.set.trans q3⟩
    have hv : valD (dkO eW2 js) (.inl g) = some (eW2 w) := by rw [dkO_val, e1]; rfl
    have hp : mDPop (mVar 3) (mVar 8) (Rw M R h num a2 a5 a6 a7 (some (.int g)) a9 a10) S = some (eW2 w, S.set h (.dk (dropD (dkO eW2 js) (.inl g)))) := by
      unfold mDPop
      show (match S[h]? with
        | some (MO.dk _) => (mVar 8 (Rw M R h num a2 a5 a6 a7 (some (.int g)) a9 a10) S).bind fun q => match q.2[h]? with
          | some (.dk kvs) => (keyOf q.1).bind fun k => (valD kvs k).map fun d => (d, q.2.set h (.dk (dropD kvs k)))
          | _ => none
        | _ => none) = _
      rw [hS]
      show (match S[h]? with
          | some (MO.dk kvs) => (keyOf (.int g)).bind fun k => (valD kvs k).map fun d => (d, S.set h (.dk (dropD kvs k)))
          | _ => none) = _
      rw [hS]
      show ((valD (dkO eW2 js) (.inl g)).map fun d => (d, S.set h (.dk (dropD (dkO eW2 js) (.inl g))))) = _
      rw [hv]
      rfl
    show ((mDrop (mDPop (mVar 3) (mVar 8)) (Rw M R h num a2 a5 a6 a7 (some (.int g)) a9 a10) S).bind fun q => match q.1 with
      | .nx => forL always (mName 8) (mDrop (mDPop (mVar 3) (mVar 8))) (gs.map D.int) q.2.1 q.2.2
      | .ct => forL always (mName 8) (mDrop (mDPop (mVar 3) (mVar 8))) (gs.map D.int) q.2.1 q.2.2
      | .bk => some (.nx, q.2.1, q.2.2)
      | .rt d => some (.rt d, q.2.1, q.2.2)) = _
    unfold mDrop
    rw [hp]
    exact q1
end K16
set_option Elab.async false
set_option linter.all false
set_option maxRecDepth 100000
set_option maxHeartbeats 4000000
namespace K16
open PySem PySem.Spec PyProof.Rows L2 MS TM
abbrev Mn : Type := Int × (List (Int × Int)) × Int × Int
abbrev eMn : Mn → D := eT4 eI (eV (eT2 eI eI)) eI eI
def bodyM : MStm :=
  (mSeq (mAsg (mCall F_law_made (mCons (mVar 0) (mCons (mVar 3) (mCons (mVar 6) mNil)))) (mName 7))
    (mSeq (mIfS (mB (mBin fEq (mVar 7) (mLstV mNil))) (mRet (mVar 5)) mNx)
    (mSeq (mFor (mItems (mBin fIx (mVar 7) (mC (.int 0)))) (mName 8) (mDrop (mDPop (mVar 3) (mVar 8))))
    (mIfS (mB (mBin fIsNot (mBin fIx (mVar 7) (mC (.int 1))) (mC .non))) (mSeq (mAsg (mBin fIx (mVar 7) (mC (.int 1))) (mgDict (mVar 3) (mVar 4)))
    (mAsg (mBin fAdd (mVar 4) (mC (.int 1))) (mName 4))) mNx))))
theorem eq_made {S : Store} {gs : List Int} {w : Option (Int × Int)} : fEq (.lst [.lst (gs.map D.int), eO eW2 w]) (.lst []) S = some (.bl false, S) := by
  have h1 : toPy S 63 (.lst (gs.map D.int)) = some (.list (gs.map faI.py)) := (faL faI).toPy_ 63 S gs (by decide)
  have f : Fa (eO eW2) 1 := faO (faT2 faI faI) (fun _ => .inl ⟨_, rfl⟩)
  have h2 := f.toPy_ 63 S w (by decide)
  have h3 : toPy S 64 (.lst [.lst (gs.map D.int), eO eW2 w]) = some (.list [.list (gs.map faI.py), f.py w]) := by
    have h5 : [eO eW2 w].mapM (toPy S 63) = some [f.py w] := by
      rw [List.mapM_cons, h2, List.mapM_nil]
      rfl
    have h6 : [D.lst (gs.map D.int), eO eW2 w].mapM (toPy S 63) = some [PyData.list (gs.map faI.py), f.py w] := by
      rw [List.mapM_cons, h1, h5]
      rfl
    show ([D.lst (gs.map D.int), eO eW2 w].mapM (toPy S 63)).map PyData.list = _
    rw [h6]
    rfl
  show fEqG id (.lst [.lst (gs.map D.int), eO eW2 w]) (.lst []) S = _
  unfold fEqG
  rw [h3]
  have h4 : toPy S 64 (.lst []) = some (.list []) := rfl
  rw [h4]
  have c1 := (faL faI).can gs
  have c2 := f.can w
  have d1 := (faL faI).dp gs
  have d2 := f.dp w
  have sh : SeqAt.shaped (.list [.list (gs.map faI.py), f.py w]) = true := by
    unfold SeqAt.shaped
    rw [Bool.and_eq_true]
    refine ⟨?_, decide_eq_true ?_⟩
    · show PyData.canLayAll0 [.list (gs.map faI.py), f.py w] = true
      unfold PyData.canLayAll0 PyData.canLayAll0 PyData.canLayAll0
      simp only [Bool.and_true, Bool.and_eq_true]
      exact ⟨c1, c2⟩
    · have : PyData.depth (.list [.list (gs.map faI.py), f.py w]) ≤ 3 := by
        show PyData.depthAll [.list (gs.map faI.py), f.py w] + 1 ≤ 3
        unfold PyData.depthAll PyData.depthAll PyData.depthAll
        have e1 : PyData.depth (.list (gs.map faI.py)) ≤ 1 := d1
        omega
      omega
  show (if SeqAt.shaped (.list [.list (gs.map faI.py), f.py w]) && SeqAt.shaped (.list []) then _ else none) = _
  rw [sh]
  rfl
end K16
set_option Elab.async false
set_option linter.all false
set_option maxRecDepth 100000
set_option maxHeartbeats 4000000
namespace K16
open PySem PySem.Spec PyProof.Rows L2 MS TM
section
variable {m : Mn} {R r : D} {h : Nat} {num : Int} {i : Int} {a2 a7 a8 a9 a10 : Option D} {js js' : J2} {S S1 : Store} {gs : List Int} {w : Int × Int}
theorem seq_nx {a b : MStm} {ρ ρ' : Ev} {S S' : Store} (e : a ρ S = some (.nx, ρ', S')) : mSeq a b ρ S = b ρ' S' := by
  unfold mSeq
  rw [e]
  rfl
theorem seq_rt {a b : MStm} {ρ ρ' : Ev} {S S' : Store} {d : D} (e : a ρ S = some (.rt d, ρ', S')) : mSeq a b ρ S = some (.rt d, ρ', S') := by
  unfold mSeq
  rw [e]
  rfl
theorem b1_ok {l : List D} (e : F_law_made [eMn m, .lr h, r] S = some (.lst l, S1)) :
    mAsg (mCall F_law_made (mCons (mVar 0) (mCons (mVar 3) (mCons (mVar 6) mNil)))) (mName 7) (Rw (eMn m) R h num a2 (some (.int i)) (some r) a7 a8 a9 a10) S = some (.nx, Rw (eMn m) R h num a2 (some (.int i)) (some r) (some (.lst l)) a8 a9 a10, S1) := by
  have hargs : mCons (mVar 0) (mCons (mVar 3) (mCons (mVar 6) mNil)) (Rw (eMn m) R h num a2 (some (.int i)) (some r) a7 a8 a9 a10) S = some ([eMn m, .lr h, r], S) := rfl
  unfold mAsg mCall
  rw [hargs]
  show ((F_law_made [eMn m, .lr h, r] S).bind _) = _
  rw [e]
  rfl
theorem b2_rt : mIfS (mB (mBin fEq (mVar 7) (mLstV mNil))) (mRet (mVar 5)) mNx (Rw (eMn m) R h num a2 (some (.int i)) (some r) (some (.lst [])) a8 a9 a10) S = some (.rt (.int i), Rw (eMn m) R h num a2 (some (.int i)) (some r) (some (.lst [])) a8 a9 a10, S) := rfl
theorem b2_nx {w : Option (Int × Int)} : mIfS (mB (mBin fEq (mVar 7) (mLstV mNil))) (mRet (mVar 5)) mNx (Rw (eMn m) R h num a2 (some (.int i)) (some r) (some (.lst [.lst (gs.map D.int), eO eW2 w])) a8 a9 a10) S
    = some (.nx, Rw (eMn m) R h num a2 (some (.int i)) (some r) (some (.lst [.lst (gs.map D.int), eO eW2 w])) a8 a9 a10, S) := by
  have e1 : mBin fEq (mVar 7) (mLstV mNil) (Rw (eMn m) R h num a2 (some (.int i)) (some r) (some (.lst [.lst (gs.map D.int), eO eW2 w])) a8 a9 a10) S = fEq (.lst [.lst (gs.map D.int), eO eW2 w]) (.lst []) S := rfl
  unfold mIfS mB
  rw [e1, eq_made]
  rfl
theorem b4_non : mIfS (mB (mBin fIsNot (mBin fIx (mVar 7) (mC (.int 1))) (mC .non))) (mSeq (mAsg (mBin fIx (mVar 7) (mC (.int 1))) (mgDict (mVar 3) (mVar 4))) (mAsg (mBin fAdd (mVar 4) (mC (.int 1))) (mName 4))) mNx
      (Rw (eMn m) R h num a2 (some (.int i)) (some r) (some (.lst [.lst (gs.map D.int), .non])) a8 a9 a10) S = some (.nx, Rw (eMn m) R h num a2 (some (.int i)) (some r) (some (.lst [.lst (gs.map D.int), .non])) a8 a9 a10, S) := rfl
theorem b4_some (hS : S[h]? = some (.dk (dkO eW2 js))) (hz : js.length < 16777216) : mIfS (mB (mBin fIsNot (mBin fIx (mVar 7) (mC (.int 1))) (mC .non))) (mSeq (mAsg (mBin fIx (mVar 7) (mC (.int 1))) (mgDict (mVar 3) (mVar 4))) (mAsg (mBin fAdd (mVar 4) (mC (.int 1))) (mName 4))) mNx
      (Rw (eMn m) R h num a2 (some (.int i)) (some r) (some (.lst [.lst (gs.map D.int), eW2 w])) a8 a9 a10) S
    = some (.nx, Rw (eMn m) R h (num + 1) a2 (some (.int i)) (some r) (some (.lst [.lst (gs.map D.int), eW2 w])) a8 a9 a10, S.set h (.dk (dkO eW2 (putJ js num w)))) := by
  have hd : dput S h (.int num) (eW2 w) = some (S.set h (.dk (dkO eW2 (putJ js num w)))) := by
    unfold dput
    rw [hS]
    show (if (dkO eW2 js).length < szl then (keyOf (.int num)).map fun k => S.set h (.dk (putD (dkO eW2 js) k (eW2 w))) else none) = _
    rw [if_pos (by unfold dkO; rw [List.length_map]; exact hz)]
    show some (S.set h (.dk (putD (dkO eW2 js) (.inl num) (eW2 w)))) = _
    rw [putD_dkO]
  have e1 : mAsg (mBin fIx (mVar 7) (mC (.int 1))) (mgDict (mVar 3) (mVar 4)) (Rw (eMn m) R h num a2 (some (.int i)) (some r) (some (.lst [.lst (gs.map D.int), eW2 w])) a8 a9 a10) S
      = some (.nx, Rw (eMn m) R h num a2 (some (.int i)) (some r) (some (.lst [.lst (gs.map D.int), eW2 w])) a8 a9 a10, S.set h (.dk (dkO eW2 (putJ js num w)))) := by
    show (((dput S h (.int num) (eW2 w)).map fun S' => (Rw (eMn m) R h num a2 (some (.int i)) (some r) (some (.lst [.lst (gs.map D.int), eW2 w])) a8 a9 a10, S')).bind fun q => some (Fl.nx, q.1, q.2)) = _
    rw [hd]
    rfl
  show mSeq _ _ (Rw (eMn m) R h num a2 (some (.int i)) (some r) (some (.lst [.lst (gs.map D.int), eW2 w])) a8 a9 a10) S = _
  rw [seq_nx e1]
  rfl
end
end K16
set_option Elab.async false
set_option linter.all false
set_option maxRecDepth 100000
set_option maxHeartbeats 4000000
namespace K16
open PySem PySem.Spec PyProof.Rows L2 MS TM
def asMade : List D → Option (Option (List Int × Option (Int × Int)))
  | [] => some none
  | [.lst gs, .non] => (intsOf gs).map fun gs => some (gs, none)
  | [.lst gs, .tup [.int a, .int b]] => (intsOf gs).map fun gs => some (gs, some (a, b))
  | _ => none
theorem asMade_none {l : List D} (e : asMade l = some none) : l = [] := by
  unfold asMade at e
  split at e
  · rfl
  · obtain ⟨_, _, z⟩ := Option.map_eq_some_iff.mp e; cases z
  · obtain ⟨_, _, z⟩ := Option.map_eq_some_iff.mp e; cases z
  · cases e
theorem asMade_some {l : List D} {gs : List Int} {w : Option (Int × Int)} (e : asMade l = some (some (gs, w))) : l = [.lst (gs.map D.int), eO eW2 w] := by
  unfold asMade at e
  split at e
  · cases e
  · obtain ⟨ns, e1, z⟩ := Option.map_eq_some_iff.mp e
    cases z
    rw [intsOf_eq e1]
    rfl
  · obtain ⟨ns, e1, z⟩ := Option.map_eq_some_iff.mp e
    cases z
    rw [intsOf_eq e1]
    rfl
  · cases e
def dueGo (m : Mn) : Int → List D → J2 → Int → Option (Int ⊕ (J2 × Int))
  | _, [], js, num => some (.inr (js, num))
  | i, r :: rs, js, num => (t_law_made m js r).bind fun made => (asMade made).bind fun o => match o with
    | none => some (.inl i)
    | some (gs, w) => (popsJ js gs).bind fun js' => match w with
      | none => dueGo m (i + 1) rs js' num
      | some w => cond (Nat.blt js'.length 16777216) (dueGo m (i + 1) rs (putJ js' num w) (num + 1)) none
def enumF : Int → List D → List D
  | _, [] => []
  | i, r :: rs => .tup [.int i, r] :: enumF (i + 1) rs
abbrev forT : MTg := mgTup (mgCons (mName 5) (mgCons (mName 6) mgNil)) 2
theorem for_nx {b : MStm} {x : D} {xs : List D} {g : MTg} {ρ ρ1 ρ2 : Ev} {S S1 S2 : Store} (e1 : g x ρ S = some (ρ1, S1)) (e2 : b ρ1 S1 = some (.nx, ρ2, S2)) : forL always g b (x :: xs) ρ S = forL always g b xs ρ2 S2 := by
  show ((g x ρ S).bind fun p => (b p.1 p.2).bind _) = _
  rw [e1]
  show ((b ρ1 S1).bind _) = _
  rw [e2]
  rfl
theorem for_rt {b : MStm} {x d : D} {xs : List D} {g : MTg} {ρ ρ1 ρ2 : Ev} {S S1 S2 : Store} (e1 : g x ρ S = some (ρ1, S1)) (e2 : b ρ1 S1 = some (.rt d, ρ2, S2)) : forL always g b (x :: xs) ρ S = some (.rt d, ρ2, S2) := by
  show ((g x ρ S).bind fun p => (b p.1 p.2).bind _) = _
  rw [e1]
  show ((b ρ1 S1).bind _) = _
  rw [e2]
  rfl
def Due (m : Mn) (R : D) (h : Nat) (a2 a9 a10 : Option D) (S : Store) (r : Option (Fl × Ev × Store)) : Int ⊕ (J2 × Int) → Prop
  | .inl a => ∃ ρ' S', r = some (.rt (.int a), ρ', S') ∧ But h S S'
  | .inr p => ∃ a5 a6 a7 a8 S', r = some (.nx, Rw (eMn m) R h p.2 a2 a5 a6 a7 a8 a9 a10, S') ∧ S'[h]? = some (.dk (dkO eW2 p.1)) ∧ But h S S'
theorem Due.pre {m : Mn} {R : D} {h : Nat} {a2 a9 a10 : Option D} {S S1 : Store} {r : Option (Fl × Ev × Store)} {x : Int ⊕ (J2 × Int)} (b : But h S S1) (d : Due m R h a2 a9 a10 S1 r x) : Due m R h a2 a9 a10 S r x := by
  cases x with
  | inl a => obtain ⟨ρ', S', e, b'⟩ := d; exact ⟨ρ', S', e, b.trans b'⟩
  | inr p => obtain ⟨a5, a6, a7, a8, S', e, q, b'⟩ := d; exact ⟨a5, a6, a7, a8, S', e, q, b.trans b'⟩
theorem due_loop {m : Mn} {R : D} {h : Nat} {a2 a9 a10 : Option D} : ∀ (rs : List D) (i : Int) (js : J2) (num : Int) (x : Int ⊕ (J2 × Int)) (a5 a6 a7 a8 : Option D) (S : Store), dueGo m i rs js num = some x → S[h]? = some (.dk (dkO eW2 js)) →
    Due m R h a2 a9 a10 S (forL always forT bodyM (enumF i rs) (Rw (eMn m) R h num a2 a5 a6 a7 a8 a9 a10) S) x
  | [], i, js, num, x, a5, a6, a7, a8, S, e, hS => by
    cases e
    exact ⟨a5, a6, a7, a8, S, rfl, hS, .refl⟩
  | r :: rs, i, js, num, x, a5, a6, a7, a8, S, e, hS => by
    obtain ⟨made, e1, e⟩ := bnd e
    obtain ⟨o, e2, e⟩ := bnd e
    obtain ⟨S1, q1, l1⟩ := s_law_made h m js r S hS made e1
    have q1 : F_law_made [eMn m, .lr h, r] S = some (.lst made, S1) := by
      rw [← List.map_id' made]
      exact q1
    have hS1 : S1[h]? = some (.dk (dkO eW2 js)) := l1 _ _ hS
    have g1 : forT (.tup [.int i, r]) (Rw (eMn m) R h num a2 a5 a6 a7 a8 a9 a10) S = some (Rw (eMn m) R h num a2 (some (.int i)) (some r) a7 a8 a9 a10, S) := rfl
    cases o with
    | none =>
      cases e
      rw [asMade_none e2] at q1
      have hb : bodyM (Rw (eMn m) R h num a2 (some (.int i)) (some r) a7 a8 a9 a10) S = some (.rt (.int i), Rw (eMn m) R h num a2 (some (.int i)) (some r) (some (.lst [])) a8 a9 a10, S1) := by
        unfold bodyM
        rw [seq_nx (b1_ok q1), seq_rt b2_rt]
      exact ⟨_, S1, for_rt g1 hb, .all l1⟩
    | some p =>
      obtain ⟨gs, w⟩ := p
      rw [asMade_some e2] at q1
      obtain ⟨js', e3, e⟩ := bnd e
      obtain ⟨a8', S2, q3, hS2, b3⟩ := pops_ok (M := eMn m) (R := R) (num := num) (a2 := a2) (a5 := some (.int i)) (a6 := some r) (a7 := some (.lst [.lst (gs.map D.int), eO eW2 w])) (a9 := a9) (a10 := a10) gs js js' a8 S1 e3 hS1
      have q3 : mFor (mItems (mBin fIx (mVar 7) (mC (.int 0)))) (mName 8) (mDrop (mDPop (mVar 3) (mVar 8))) (Rw (eMn m) R h num a2 (some (.int i)) (some r) (some (.lst [.lst (gs.map D.int), eO eW2 w])) a8 a9 a10) S1
          = some (.nx, Rw (eMn m) R h num a2 (some (.int i)) (some r) (some (.lst [.lst (gs.map D.int), eO eW2 w])) a8' a9 a10, S2) := q3
      have b12 : But h S S2 := (But.all l1).trans b3
      cases w with
      | none =>
        have hb : bodyM (Rw (eMn m) R h num a2 (some (.int i)) (some r) a7 a8 a9 a10) S = some (.nx, Rw (eMn m) R h num a2 (some (.int i)) (some r) (some (.lst [.lst (gs.map D.int), .non])) a8' a9 a10, S2) := by
          unfold bodyM
          rw [seq_nx (b1_ok q1), seq_nx b2_nx, seq_nx q3]
          exact b4_non
        show Due m R h a2 a9 a10 S (forL always forT bodyM (.tup [.int i, r] :: enumF (i + 1) rs) _ S) x
        rw [for_nx g1 hb]
        exact (due_loop rs (i + 1) js' num x _ _ _ _ S2 e hS2).pre b12
      | some w =>
        have e : cond (Nat.blt js'.length 16777216) (dueGo m (i + 1) rs (putJ js' num w) (num + 1)) none = some x := e
        cases hz : Nat.blt js'.length 16777216 with
        | false => rw [hz] at e; cases e
        | true =>
        rw [hz] at e
        have hlt : js'.length < 16777216 := Nat.le_of_ble_eq_true hz
        have hb : bodyM (Rw (eMn m) R h num a2 (some (.int i)) (some r) a7 a8 a9 a10) S = some (.nx, Rw (eMn m) R h (num + 1) a2 (some (.int i)) (some r) (some (.lst [.lst (gs.map D.int), eW2 w])) a8' a9 a10, S2.set h (.dk (dkO eW2 (putJ js' num w)))) := by
          unfold bodyM
          rw [seq_nx (b1_ok q1), seq_nx b2_nx, seq_nx q3]
          exact b4_some hS2 hlt
        show Due m R h a2 a9 a10 S (forL always forT bodyM (.tup [.int i, r] :: enumF (i + 1) rs) _ S) x
        rw [for_nx g1 hb]
        exact (due_loop rs (i + 1) (putJ js' num w) (num + 1) x _ _ _ _ _ e (by rw [List.getElem?_set_self (List.getElem?_eq_some_iff.mp hS2).1])).pre (b12.trans .set)
end K16
set_option Elab.async false
set_option linter.all false
set_option maxRecDepth 100000
set_option maxHeartbeats 4000000
namespace K16
open PySem PySem.Spec PyProof.Rows L2 MS TM
def t_pairs (m : Mn) : Option (List (Int × (Int × Int))) :=
  (((((((some m)).bind fun x1 => some x1.2.1)).bind fun x2 => some (enumI x2))).bind fun x6 => compM (fun a3 => (some true)) (fun a3 => (((some a3.1)).bind fun x4 => ((some a3.2)).bind fun x5 => some (x4, x5))) x6)
abbrev pairsM : MExp := mFz (mLc (mEnum (mCons (mBin fIx (mVar 0) (mC (.int 1))) mNil)) (mgTup (mgCons (mName 5) (mgCons (mName 10) mgNil)) 2) mYes (mTup (mCons (mVar 5) (mCons (mVar 10) mNil))) [5, 10])
theorem x_pairs {m : Mn} {rs : List D} {S0 : Store} : XE S0 [.val (eMn m), .val (eV eD rs), .unk, .unk, .unk, .unk, .unk, .unk, .unk, .unk, .unk] pairsM (t_pairs m) (eL (eT2 eI eW2)) := by
  unfold t_pairs
  exact (xe_lc (xi_enumV (xe_ixF (B := (eV (eT2 eI eI))) (f := fun x1 => x1.2.1) (xe_var (eT4 eI (eV (eT2 eI eI)) eI eI) rfl) (fun _ _ => rfl))) (fun a3 => (xg_tup (xgs_cons xg_name (xgs_cons xg_name xgs_nil)) rfl)) (fun a3 => xt_yes) (fun a3 => (xe_tup2 (C := (eT2 eI (eT2 eI eI))) (fun x4 x5 => (x4, x5)) (xe_var eI rfl) (xe_var (eT2 eI eI) rfl) (fun _ _ => rfl))))
theorem pairsOf_dkO : ∀ {ps : J2}, pairsOf (ps.map (eT2 eI eW2)) = some (dkO eW2 ps)
  | [] => rfl
  | p :: ps => by
    show ((keyOf (.int p.1)).bind fun k => (pairsOf (ps.map (eT2 eI eW2))).map fun l => (k, eW2 p.2) :: l) = _
    rw [pairsOf_dkO]
    rfl
def putAll (js : J2) : J2 → J2
  | [] => js
  | p :: ps => putAll (putJ js p.1 p.2) ps
theorem mergeD_dkO : ∀ {ps js : J2}, mergeD (dkO eW2 js) (dkO eW2 ps) = dkO eW2 (putAll js ps)
  | [], _ => rfl
  | p :: ps, js => by
    show mergeD (putD (dkO eW2 js) (.inl p.1) (eW2 p.2)) (dkO eW2 ps) = _
    rw [putD_dkO, mergeD_dkO]
    rfl
theorem enumF_map : ∀ {rs : List D} {k : Nat}, (rs.mapIdx fun i d => D.tup [.int ((k + i : Nat) : Int), d]) = enumF (k : Int) rs
  | [], _ => rfl
  | r :: rs, k => by
    rw [List.mapIdx_cons]
    show D.tup [.int ((k + 0 : Nat) : Int), r] :: (rs.mapIdx fun i d => D.tup [.int ((k + (i + 1) : Nat) : Int), d]) = D.tup [.int (k : Int), r] :: enumF ((k : Int) + 1) rs
    have h := enumF_map (rs := rs) (k := k + 1)
    have e : ((k + 1 : Nat) : Int) = (k : Int) + 1 := by omega
    rw [e] at h
    rw [← h]
    congr 1
    apply List.ext_getElem?
    intro j
    rw [List.getElem?_mapIdx, List.getElem?_mapIdx]
    have : k + (j + 1) = k + 1 + j := by omega
    rw [this]
theorem enumD_F {rs : List D} : enumD rs = enumF 0 rs := by
  have h := enumF_map (rs := rs) (k := 0)
  unfold enumD
  rw [← show enumF ((0 : Nat) : Int) rs = enumF 0 rs from rfl, ← h]
  congr 1
  funext i d
  rw [Nat.zero_add]
theorem cons_ok {a : MExp} {r : MArg} {ρ : Ev} {S S1 S2 : Store} {d : D} {ds : List D} (h1 : a ρ S = some (d, S1)) (h2 : r ρ S1 = some (ds, S2)) : mCons a r ρ S = some (d :: ds, S2) := by
  unfold mCons
  rw [h1]
  show ((r ρ S1).bind _) = _
  rw [h2]
  rfl
theorem s1_ok {m : Mn} {rs : List D} {S : Store} {ps : J2} (e : t_pairs m = some ps) : ∃ S1 h, mPar 3 4 (mCons (mCall cDictP (mCons pairsM mNil)) (mCons (mCall cLen (mCons (mBin fIx (mVar 0) (mC (.int 1))) mNil)) mNil)) (startD 11 [eMn m, eV eD rs]) S
    = some (.nx, Rw (eMn m) (eV eD rs) h (m.2.1.length : Int) none none none none none none none, S1) ∧ S1[h]? = some (.dk (dkO eW2 (putAll [] ps))) ∧ All S S1 ∧ S.length ≤ h := by
  obtain ⟨Sa, q1, a1⟩ := x_pairs (S0 := S) (m := m) (rs := rs) (startD 11 [eMn m, eV eD rs]) S (sx_start (n := 11) (ds := [eMn m, eV eD rs])) ps e
  have hd : cDictP [eL (eT2 eI eW2) ps] Sa = some (.lr Sa.length, Sa ++ [.dk (dkO eW2 (putAll [] ps))]) := by
    show ((pairsOf (ps.map (eT2 eI eW2))).map fun kvs => (D.lr Sa.length, Sa ++ [MO.dk (mergeD [] kvs)])) = _
    rw [pairsOf_dkO]
    show some (D.lr Sa.length, Sa ++ [MO.dk (mergeD (dkO eW2 []) (dkO eW2 ps))]) = _
    rw [mergeD_dkO]
  have hl : ∀ S' : Store, mCall cLen (mCons (mBin fIx (mVar 0) (mC (.int 1))) mNil) (startD 11 [eMn m, eV eD rs]) S' = some (.int (m.2.1.length : Int), S') := fun S' => by
    show some (D.int ((m.2.1.map (eT2 eI eI)).length : Int), S') = _
    rw [List.length_map]
  refine ⟨Sa ++ [.dk (dkO eW2 (putAll [] ps))], Sa.length, ?_, get_new, a1.trans .app, a1.len⟩
  have h1 : mCall cDictP (mCons pairsM mNil) (startD 11 [eMn m, eV eD rs]) S = some (.lr Sa.length, Sa ++ [.dk (dkO eW2 (putAll [] ps))]) := by
    unfold mCall mCons
    rw [q1]
    exact hd
  have ha := cons_ok h1 (cons_ok (hl (Sa ++ [.dk (dkO eW2 (putAll [] ps))])) (show mNil (startD 11 [eMn m, eV eD rs]) _ = some ([], _) from rfl))
  unfold mPar
  rw [ha]
  rfl
end K16
set_option Elab.async false
set_option linter.all false
set_option maxRecDepth 100000
set_option maxHeartbeats 4000000
namespace K16
open PySem PySem.Spec PyProof.Rows L2 MS TM
def t_left (js : J2) : Option (List (List Int)) :=
  (some (js.map (·.2))).bind fun xs => compM (fun _ => some true) (fun p => ((some p).bind fun x => some [x.1, x.2]).bind fun l => cond (Nat.blt l.length 64) (some (sortI l)) none) xs
abbrev sortM : MExp := mCall (cFz cSortedTI) (mCons (mVar 9) mNil)
theorem solid_dkO : ∀ {js : J2}, solidA ((dkO eW2 js).map (·.2)) = true
  | [] => rfl
  | p :: js => by
    show (solid (eW2 p.2) && solidA ((dkO eW2 js).map (·.2))) = true
    rw [solid_dkO]
    rfl
theorem snd_dkO {js : J2} : (dkO eW2 js).map (·.2) = (js.map (·.2)).map eW2 := by
  unfold dkO
  rw [List.map_map, List.map_map]
  rfl
theorem sx_unk {S0 : Store} {ρ : Ev} (hl : ρ.length = 11) : Sx S0 (List.replicate 11 .unk) ρ S0 := by
  have no : ∀ (i : Nat) (x : Sl), (List.replicate 11 Sl.unk)[i]? = some x → x = .unk := fun i x e => (List.mem_replicate.mp (List.mem_of_getElem? e)).2
  exact ⟨.refl, by rw [hl, List.length_replicate], fun i d e => (by cases no _ _ e), fun i ds e => (by cases no _ _ e), fun i j ds es h e => (by cases no _ _ e)⟩
theorem left_ok {M R : D} {h : Nat} {num : Int} {a2 a5 a6 a7 a8 a9 a10 : Option D} {js : J2} {S : Store} {ls : List (List Int)} (hS : S[h]? = some (.dk (dkO eW2 js))) (e : t_left js = some ls) :
    ∃ S', mFz (mValsLc 3 (mName 9) mYes sortM [9]) (Rw M R h num a2 a5 a6 a7 a8 a9 a10) S = some (eL (eL eI) ls, S') ∧ All S S' := by
  have hlt : h < S.length := (List.getElem?_eq_some_iff.mp hS).1
  have hi : XI (S.set h .gone) (List.replicate 11 .unk) (mItK ((js.map (·.2)).map eW2)) (some (js.map (·.2))) eW2 := fun ρ S1 s a e => by
    cases e
    exact ⟨S1, rfl, .refl⟩
  obtain ⟨n, S1, q1, a1, hn, hl⟩ := xo_lc (e := sortM) (c := mYes) (vs := [9]) (slg := fun a => (wipeS (List.replicate 11 .unk) [9]).set 9 (.val (eW2 a))) (te := fun p : Int × Int => ((some p).bind fun x => some [x.1, x.2]).bind fun l => cond (Nat.blt l.length 64) (some (sortI l)) none) (B := eL eI) hi
    (fun a => xg_name) (fun a => xt_yes) (fun a => xe_call1 (xe_map (B := eV eI) (f := fun p : Int × Int => [p.1, p.2]) (xe_var eW2 rfl) (fun _ => rfl)) (fun _ => g_sortedV))
    (Rw M R h num a2 a5 a6 a7 a8 a9 a10) (S.set h .gone) (sx_unk rfl) ls e
  rw [List.length_set] at hn
  have hg : S1[h]? = some .gone := a1 _ _ (List.getElem?_set_self hlt)
  have hne : h ≠ n := by omega
  have q2 : mValsLc 3 (mName 9) mYes sortM [9] (Rw M R h num a2 a5 a6 a7 a8 a9 a10) S = some (.lr n, S1.set h (.dk (dkO eW2 js))) := by
    unfold mValsLc
    show (match S[h]? with
      | some (MO.dk kvs) => cond (solidA (kvs.map fun z : Key × D => z.2)) ((mLc (mItK (kvs.map fun z : Key × D => z.2)) (mName 9) mYes sortM [9] (Rw M R h num a2 a5 a6 a7 a8 a9 a10) (S.set h .gone)).bind fun p => match p.2[h]? with
        | some MO.gone => some (p.1, p.2.set h (.dk kvs))
        | _ => none) none
      | _ => none) = _
    rw [hS]
    show cond (solidA ((dkO eW2 js).map (·.2))) ((mLc (mItK ((dkO eW2 js).map (·.2))) (mName 9) mYes sortM [9] (Rw M R h num a2 a5 a6 a7 a8 a9 a10) (S.set h .gone)).bind _) none = _
    rw [solid_dkO, snd_dkO, q1]
    show (match S1[h]? with
        | some MO.gone => some (D.lr n, S1.set h (.dk (dkO eW2 js)))
        | _ => none) = _
    rw [hg]
  have hn2 : (S1.set h (.dk (dkO eW2 js)))[n]? = some (.lst (ls.map (eL eI))) := by rw [List.getElem?_set_ne hne]; exact hl
  refine ⟨(S1.set h (.dk (dkO eW2 js))).set n .gone, ?_, fun k x ek => ?_⟩
  · unfold mFz
    rw [q2]
    show fzD (S1.set h (.dk (dkO eW2 js))) (.lr n) = _
    unfold fzD
    dsimp only
    rw [hn2]
  · have hk : k < S.length := (List.getElem?_eq_some_iff.mp ek).1
    rw [List.getElem?_set_ne (by omega)]
    by_cases z : h = k
    · subst z
      rw [hS] at ek
      cases ek
      exact List.getElem?_set_self (List.getElem?_eq_some_iff.mp hg).1
    · rw [List.getElem?_set_ne z]
      exact a1 _ _ (by rw [List.getElem?_set_ne z]; exact ek)
end K16
set_option Elab.async false
set_option linter.all false
set_option maxRecDepth 100000
set_option maxHeartbeats 4000000
namespace K16
open PySem PySem.Spec PyProof.Rows L2 MS TM
def t_law_reduced_due (m : Mn) (rs : List D) : Option (Option Int) :=
  (t_pairs m).bind fun ps => (dueGo m 0 rs (putAll [] ps) (m.2.1.length : Int)).bind fun x => match x with
    | .inl a => some (some a)
    | .inr p => (t_left p.1).bind fun ls => some (if ls = [sortI [m.2.2.1, m.2.2.2]] then none else some (rs.length : Int))
theorem But.above {h : Nat} {S S1 S2 : Store} (a : All S S1) (b : But h S1 S2) (hn : S.length ≤ h) : All S S2 := fun n x e => b n x (by have := (List.getElem?_eq_some_iff.mp e).1; omega) (a n x e)
theorem ret_ok {m : Mn} {rs : List D} {h : Nat} {num : Int} {a5 a6 a7 a8 a9 a10 : Option D} {ls : List (List Int)} {S : Store} :
    ∃ S', mRet (mIf (mB (mBin fEq (mVar 2) (mLstV (mCons (mCall (cFz cSortedTI) (mCons (mSl (mVar 0) (mPart (mC (.int 2))) mNoPart) mNil)) mNil)))) (mC .non) (mCall cLen (mCons (mVar 1) mNil))) (Rw (eMn m) (eV eD rs) h num (some (eL (eL eI) ls)) a5 a6 a7 a8 a9 a10) S
      = some (.rt (eO eI (if ls = [sortI [m.2.2.1, m.2.2.2]] then none else some (rs.length : Int))), Rw (eMn m) (eV eD rs) h num (some (eL (eL eI) ls)) a5 a6 a7 a8 a9 a10, S') ∧ All S S' := by
  obtain ⟨S1, q1, a1⟩ := g_sortedV (xs := [m.2.2.1, m.2.2.2]) _ rfl S
  refine ⟨S1, ?_, a1⟩
  have h1 : mCall (cFz cSortedTI) (mCons (mSl (mVar 0) (mPart (mC (.int 2))) mNoPart) mNil) (Rw (eMn m) (eV eD rs) h num (some (eL (eL eI) ls)) a5 a6 a7 a8 a9 a10) S = some (eL eI (sortI [m.2.2.1, m.2.2.2]), S1) := q1
  have h2 : mLstV (mCons (mCall (cFz cSortedTI) (mCons (mSl (mVar 0) (mPart (mC (.int 2))) mNoPart) mNil)) mNil) (Rw (eMn m) (eV eD rs) h num (some (eL (eL eI) ls)) a5 a6 a7 a8 a9 a10) S = some (eL (eL eI) [sortI [m.2.2.1, m.2.2.2]], S1) := by
    unfold mLstV
    rw [cons_ok h1 (show mNil _ S1 = some ([], S1) from rfl)]
    rfl
  have h3 : mB (mBin fEq (mVar 2) (mLstV (mCons (mCall (cFz cSortedTI) (mCons (mSl (mVar 0) (mPart (mC (.int 2))) mNoPart) mNil)) mNil))) (Rw (eMn m) (eV eD rs) h num (some (eL (eL eI) ls)) a5 a6 a7 a8 a9 a10) S = some (decide (ls = [sortI [m.2.2.1, m.2.2.2]]), S1) := by
    have q := op_eq_ (faL (faL faI)) (by decide) ls [sortI [m.2.2.1, m.2.2.2]] _ S1 rfl
    unfold mB mBin
    show (((mLstV (mCons (mCall (cFz cSortedTI) (mCons (mSl (mVar 0) (mPart (mC (.int 2))) mNoPart) mNil)) mNil) (Rw (eMn m) (eV eD rs) h num (some (eL (eL eI) ls)) a5 a6 a7 a8 a9 a10) S).bind fun q => fEq (eL (eL eI) ls) q.1 q.2).bind _) = _
    rw [h2]
    show ((fEq (eL (eL eI) ls) (eL (eL eI) [sortI [m.2.2.1, m.2.2.2]]) S1).bind _) = _
    rw [q]
    rfl
  unfold mRet mIf
  rw [h3]
  by_cases hd : ls = [sortI [m.2.2.1, m.2.2.2]]
  · rw [if_pos hd, decide_eq_true hd]
    rfl
  · rw [if_neg hd, decide_eq_false hd]
    show (some (D.int ((rs.map eD).length : Int), S1)).bind _ = _
    rw [List.length_map]
    rfl
theorem s_law_reduced_due (m : Mn) (rs : List D) : Gvs F_law_reduced_due [eMn m, eV eD rs] (t_law_reduced_due m rs) (eO eI) := fun a e S => by
  obtain ⟨ps, e1, e⟩ := bnd e
  obtain ⟨x, e2, e⟩ := bnd e
  obtain ⟨S1, h, q1, h1, a1, hn⟩ := s1_ok (rs := rs) (S := S) e1
  have d := due_loop (m := m) (R := eV eD rs) (h := h) (a2 := none) (a9 := none) (a10 := none) rs 0 _ _ x none none none none S1 e2 h1
  have q2 : mFor (mEnum (mCons (mVar 1) mNil)) forT bodyM (Rw (eMn m) (eV eD rs) h (m.2.1.length : Int) none none none none none none none) S1 = forL always forT bodyM (enumF 0 rs) (Rw (eMn m) (eV eD rs) h (m.2.1.length : Int) none none none none none none none) S1 := by
    show forL always forT bodyM (enumD (rs.map eD)) _ S1 = _
    rw [List.map_id', enumD_F]
  have fin : ∀ {v : D} {ρ' : Ev} {S' : Store}, M_law_reduced_due (startD 11 [eMn m, eV eD rs]) S = some (.rt v, ρ', S') → F_law_reduced_due [eMn m, eV eD rs] S = some (v, S') := fun {v ρ' S'} q => by
    unfold F_law_reduced_due den
    rw [if_pos (show [eMn m, eV eD rs].length = 2 from rfl), q]
  cases x with
  | inl b =>
    cases e
    obtain ⟨ρ', S', q3, b3⟩ := d
    refine ⟨S', fin (ρ' := ρ') ?_, b3.above a1 hn⟩
    unfold M_law_reduced_due
    rw [seq_nx q1]
    exact seq_rt (q2.trans q3)
  | inr p =>
    obtain ⟨ls, e3, e⟩ := bnd e
    cases e
    obtain ⟨a5, a6, a7, a8, S2, q3, h2, b3⟩ := d
    obtain ⟨S3, q4, a3⟩ := left_ok (M := eMn m) (R := eV eD rs) (num := p.2) (a2 := none) (a5 := a5) (a6 := a6) (a7 := a7) (a8 := a8) (a9 := none) (a10 := none) h2 e3
    obtain ⟨S4, q5, a4⟩ := ret_ok (m := m) (rs := rs) (h := h) (num := p.2) (a5 := a5) (a6 := a6) (a7 := a7) (a8 := a8) (a9 := none) (a10 := none) (ls := ls) (S := S3)
    refine ⟨S4, fin (ρ' := Rw (eMn m) (eV eD rs) h p.2 (some (eL (eL eI) ls)) a5 a6 a7 a8 none none) ?_, ((b3.above a1 hn).trans a3).trans a4⟩
    unfold M_law_reduced_due
    rw [seq_nx q1]
    refine (seq_nx (q2.trans q3)).trans ?_
    have q6 : mAsg (mFz (mValsLc 3 (mName 9) mYes sortM [9])) (mName 2) (Rw (eMn m) (eV eD rs) h p.2 none a5 a6 a7 a8 none none) S2 = some (.nx, Rw (eMn m) (eV eD rs) h p.2 (some (eL (eL eI) ls)) a5 a6 a7 a8 none none, S3) := by
      unfold mAsg
      rw [q4]
      rfl
    exact (seq_nx q6).trans q5
end K16
set_option Elab.async false
set_option linter.all false
set_option maxRecDepth 100000
set_option maxHeartbeats 4000000
set_option synthInstance.maxSize 2000
namespace K16
open PySem PySem.Spec PyProof.Rows L2 MS TM
def t_law_row (v_mine : (Int × (List (Int × Int)) × Int × Int)) : PM (List D) :=
  (bP (lP (((some ([] : List D))).bind fun x4 => ((((((some v_mine)).bind fun x2 => some x2.2.1)).bind fun x3 => some (x3.length : Int))).bind fun x5 => some (x4, x5))) fun x1 => (bP (bP (lP (((some (40 : Int))).bind fun x7 => rng1 x7)) fun x9 => (loopP (fun a8 (s6 : (List D) × Int) => (bP (bP (lP (some v_mine)) fun x11 => (bP (lP (some s6.2)) fun x12 => (t_law_some_reduction x11 x12))) fun x10 => (lP (((((((some v_mine)).bind fun x18 => ((((((((some x10)).bind fun x15 => some [x15])).bind fun x16 => extM s6.1 x16)).bind fun x17 => some x17)).bind fun x19 => t_law_reduced_due x18 x19)).bind fun x13 => ((((some (none : (Option Int)))).bind fun x23 => ((((((some ((s6.1).length : Int))).bind fun x20 => ((some (1 : Int))).bind fun x21 => some (x20 + x21))).bind fun x22 => some (some x22))).bind fun x24 => some [x23, x24])).bind fun x14 => some (decide (x13 ∈ x14)))).bind fun x25 => cond x25 (((((some x10)).bind fun x27 => pushM s6.1 x27)).bind fun x26 => (((((some s6.2)).bind fun x35 => ((((((((((some x10)).bind fun x29 => asV x29)).bind fun x30 => ((some (0 : Int))).bind fun x31 => atT x30 x31)).bind fun x32 => ((some (Str.ofString "hung"))).bind fun x33 => (eqS x32 x33).map not)).bind fun x34 => some (if x34 then 1 else 0 : Int))).bind fun x36 => some (x35 + x36))).bind fun x28 => some (x26, x28))) ((some ()).bind fun _ => some (s6.1, s6.2)))))) x9 (x1.1, x1.2))) fun s37 => (lP (some s37.1))))
theorem s_law_row (v_mine : (Int × (List (Int × Int)) × Int × Int)) : Gps F_law_row [(eT4 eI (eV (eT2 eI eI)) eI eI) v_mine] (t_law_row v_mine) (eV eD) := gps_of rfl fun S0 p => by
  unfold M_law_row t_law_row
  exact (pr_seqN (pn_of fun _ => (sn_par (xs_own (A := eD) xo_nil) (xs_val (xe_call1 (xe_ixF (B := (eV (eT2 eI eI))) (f := fun x2 => x2.2.1) (xe_var (eT4 eI (eV (eT2 eI eI)) eI eI) rfl) (fun _ _ => rfl)) (fun _ => g_lenV))) (fun _ z => nomatch z) (fun _ z => nomatch z) (by decide))) (fun x1 => (pr_seqN (pn_for (slσ := fun s6 : (List D) × Int => [.val (.lr p), .val ((eT4 eI (eV (eT2 eI eI)) eI eI) v_mine), .unk, .own ((s6.1).map eD), .val (eI s6.2), .unk]) (pi_of fun _ => (xi_range1 (xe_c eI rfl))) (.keep (.keep (.keep (.keep (.keep (.keep .nil)))))) (fun s6 a8 _ => xg_name) (fun s6 a8 => (pn_seq (pn_asg (px_pcall2 rfl (px_of fun _ => (xe_var (eT4 eI (eV (eT2 eI eI)) eI eI) rfl)) (px_of fun _ => (xe_var eI rfl)) (fun _ _ => s_law_some_reduction _ _))) (fun x10 => (pn_of fun _ => (sn_if (xt_B (xe_bin (xe_call2 (xe_var (eT4 eI (eV (eT2 eI eI)) eI eI) rfl) (xe_call1 (xe_addO (xs := s6.1) rfl (xe_lst1 (C := (eL eD)) (fun x15 => [x15]) (xe_var eD rfl) (fun _ => rfl))) (fun _ => g_tupleL)) (fun _ _ => s_law_reduced_due _ _)) (xe_tup2 (C := (eV (eO eI))) (fun x23 x24 => [x23, x24]) (xe_c (eO eI) rfl) (xe_map (B := (eO eI)) (f := fun x => some x) (xe_bin (xe_lenO (A := eD) (xs := s6.1) rfl) (xe_c eI rfl) op_add) (fun _ => rfl)) (fun _ _ => rfl)) (op_inPV (faO faI (fun _ => .inr (.inr ⟨_, rfl⟩))) (by decide)))) (sn_seq (sn_app (A := eD) (xs := s6.1) rfl (xe_var eD rfl)) (fun x26 => (sn_st (f := fun x28 => (x26, x28)) (sl' := fun s6 : (List D) × Int => [.val (.lr p), .val ((eT4 eI (eV (eT2 eI eI)) eI eI) v_mine), .unk, .own ((s6.1).map eD), .val (eI s6.2), .unk]) (sn_asg (xe_bin (xe_var eI rfl) (xe_call1 (xe_bin (xe_bin (xe_view as_V (xe_var eD rfl)) (xe_c eI rfl) op_ixV) (xe_c eS rfl) op_neDS) (fun _ => g_intB)) op_add)) (fun x28 => (.keep (.keep (.drop (.keep (.keep (.drop .nil)))))))))) (sn_st (f := fun _ => (s6.1, s6.2)) (sl' := fun s6 : (List D) × Int => [.val (.lr p), .val ((eT4 eI (eV (eT2 eI eI)) eI eI) v_mine), .unk, .own ((s6.1).map eD), .val (eI s6.2), .unk]) sn_nx (fun _ => (.keep (.keep (.drop (.keep (.keep (.drop .nil)))))))))))))) (fun s37 => (pr_of fun _ => (sr_ret (xe_tupleO (A := eD) (xs := s37.1) rfl)))))))
def t_law (v_script : List Int) : PM Bool :=
  (bP (bP (lP (((((some (2 : Int))).bind fun x5 => ((((some (4 : Int))).bind fun x3 => ((((some v_script)).bind fun x2 => some (x2.length : Int))).bind fun x4 => some (if x4 < x3 then x4 else x3))).bind fun x6 => some (if x6 > x5 then x6 else x5))).bind fun x7 => rng1 x7)) fun x9 => (loopRP (fun a8 (s1 : Unit) => (bP (bP (bP (lP (some (2 : Int))) fun x12 => (bP (bP (lP (some (5 : Int))) fun x11 => (t_law_draw x11)) fun x13 => (lP (some (x12 + x13))))) fun x14 => (bP (lP (some (8 : Int))) fun x15 => (t_law_mine x14 x15))) fun x10 => (bP (bP (bP (bP (lP (some (4 : Int))) fun x33 => (t_law_draw x33)) fun x34 => (bP (lP (some (0 : Int))) fun x35 => (lP (some (decide (x34 = x35)))))) fun x36 => (cond x36 (bP (bP (bP (lP (((some x10)).bind fun x38 => some x38.1)) fun x47 => (bP (bP (lP (((some x10)).bind fun x39 => some x39.2.1)) fun x42 => (bP (lP (some none)) fun x43 => (bP (bP (bP (lP (some (2 : Int))) fun x40 => (t_law_draw x40)) fun x41 => (lP (some (some x41)))) fun x44 => (lP (some (cutT x42 x43 x44)))))) fun x48 => (bP (lP (((some x10)).bind fun x45 => some x45.2.2.1)) fun x49 => (bP (lP (((some x10)).bind fun x46 => some x46.2.2.2)) fun x50 => (lP (some (x47, x48, x49, x50))))))) fun x51 => (t_law_loose x51)) fun x37 => (lP (some x37))) (lP ((some ()).bind fun _ => some x10)))) fun s32 => (bP (bP (lP (((((some s32)).bind fun x53 => some x53.2.1)).bind fun x54 => ((some ([] : (List (Int × Int))))).bind fun x55 => some (!decide (x54 = x55)))) fun x57 => (cond x57 (bP (lP (some s32)) fun x56 => (t_law_row x56)) (lP (some ([] : (List D)))))) fun x52 => (bP (bP (bP (lP (((((some x52)).bind fun x59 => some (x59.length : Int))).bind fun x60 => ((some (1 : Int))).bind fun x61 => some (x60 + x61))) fun x62 => (t_law_draw x62)) fun x65 => (bP (bP (lP (some s32)) fun x63 => (bP (lP (some (9 : Int))) fun x64 => (t_law_some_reduction x63 x64))) fun x66 => (lP (some (x65, x66))))) fun x58 => (lP (((((((some x52)).bind fun x114 => ((((some x52)).bind fun x93 => ((some none)).bind fun x94 => ((((((some (1 : Int))).bind fun x91 => some (-x91))).bind fun x92 => some (some x92))).bind fun x95 => some (cutT x93 x94 x95))).bind fun x115 => ((((some x52)).bind fun x97 => ((((some (1 : Int))).bind fun x96 => some (some x96))).bind fun x98 => ((some none)).bind fun x99 => some (cutT x97 x98 x99))).bind fun x116 => ((((((((some x52)).bind fun x101 => ((some none)).bind fun x102 => ((((some x58.1)).bind fun x100 => some (some x100))).bind fun x103 => some (cutT x101 x102 x103))).bind fun x105 => ((((some x58.2)).bind fun x104 => some [x104])).bind fun x106 => extM x105 x106)).bind fun x111 => ((((some x52)).bind fun x108 => ((((some x58.1)).bind fun x107 => some (some x107))).bind fun x109 => ((some none)).bind fun x110 => some (cutT x108 x109 x110))).bind fun x112 => extM x111 x112)).bind fun x117 => ((((some x52)).bind fun x113 => some x113.reverse)).bind fun x118 => ((some ([] : (List D)))).bind fun x119 => some [x114, x115, x116, x117, x118, x119])).bind fun x121 => loopR (fun a120 (s67 : Unit) => (((((((((some s32)).bind fun x125 => ((some a120)).bind fun x126 => some (x125, x126))).bind fun x127 => some ((eT2 (eT4 eI (eV (eT2 eI eI)) eI eI) (eV eD)) x127))).bind fun x128 => reprD x128)).bind fun x122 => (((((((((((some s32)).bind fun x140 => ((some a120)).bind fun x141 => t_can_reduce x140 x141)).bind fun x142 => repr_ ((faO faI (fun _ => .inr (.inr ⟨_, rfl⟩))).py x142))).bind fun x148 => ((((((some s32)).bind fun x145 => ((some a120)).bind fun x146 => t_law_reduced_due x145 x146)).bind fun x147 => repr_ ((faO faI (fun _ => .inr (.inr ⟨_, rfl⟩))).py x147))).bind fun x149 => some (!decide (x148 = x149)))).bind fun x150 => cond x150 (some true) (((((((((some s32)).bind fun x132 => ((some a120)).bind fun x133 => some (x132, x133))).bind fun x134 => some ((eT2 (eT4 eI (eV (eT2 eI eI)) eI eI) (eV eD)) x134))).bind fun x135 => reprD x135)).bind fun x136 => ((some x122)).bind fun x137 => some (!decide (x136 = x137))))).bind fun x129 => cond x129 (((some false)).bind fun x151 => some (Out.rt x151)) ((((some ()).bind fun _ => some ())).bind fun x152 => some (Out.nx x152))))) x121 ())).bind fun o154 => o154.fin (fun s153 => some (Out.nx ())) fun b => some (Out.rt b)))))))) x9 ())) fun o156 => (o156.by (fun s155 => (lP (some true))) fun b => lP (some b)))
theorem s_law (v_script : List Int) (a : Bool) (P' : Pn) (h : t_law v_script (penOf v_script) = some (a, P')) : ∃ S', F_law [eF_ v_script] [] = some (.bl a, S') := by
  unfold t_law at h
  unfold F_law M_law
  refine law_start (fun S0 p => ?_) h
  exact (pr_seqB (pb_for (slσ := fun s1 : Unit => [.val (eF_ v_script), .val (.lr p), .unk, .unk, .unk, .unk, .unk, .unk, .unk]) (pi_of fun _ => (xi_range1 (xe_call2 (xe_c eI rfl) (xe_call2 (xe_c eI rfl) (xe_call1 (xe_var eF_ rfl) (fun _ => g_lenF)) (fun _ _ => g_min)) (fun _ _ => g_max)))) (.keep (.keep (.keep (.keep (.keep (.keep (.keep (.keep (.keep .nil))))))))) (fun s1 a8 _ => xg_name) (fun s1 a8 => (pb_seqN (pn_asg (px_pcall2 rfl (px_bin (px_of fun _ => (xe_c eI rfl)) (px_pcall1 rfl (px_of fun _ => (xe_c eI rfl)) (fun _ => s_law_draw _)) op_add) (px_of fun _ => (xe_c eI rfl)) (fun _ _ => s_law_mine _ _))) (fun x10 => (pb_seqN (pn_if (pt_B (px_bin (px_pcall1 rfl (px_of fun _ => (xe_c eI rfl)) (fun _ => s_law_draw _)) (px_of fun _ => (xe_c eI rfl)) (op_eq_ faI (by decide)))) (pn_st (f := fun x37 => x37) (sl' := fun s32 : (Int × (List (Int × Int)) × Int × Int) => [.val (eF_ v_script), .val (.lr p), .val (eI a8), .val ((eT4 eI (eV (eT2 eI eI)) eI eI) s32), .unk, .unk, .unk, .unk, .unk]) (pn_asg (px_pcall1 rfl (px_tup4 (C := (eT4 eI (eV (eT2 eI eI)) eI eI)) (fun x47 x48 x49 x50 => (x47, x48, x49, x50)) (px_of fun _ => (xe_ixF (B := eI) (f := fun x38 => x38.1) (xe_var (eT4 eI (eV (eT2 eI eI)) eI eI) rfl) (fun _ _ => rfl))) (px_slNV (px_of fun _ => (xe_ixF (B := (eV (eT2 eI eI))) (f := fun x39 => x39.2.1) (xe_var (eT4 eI (eV (eT2 eI eI)) eI eI) rfl) (fun _ _ => rfl))) (px_pcall1 rfl (px_of fun _ => (xe_c eI rfl)) (fun _ => s_law_draw _))) (px_of fun _ => (xe_ixF (B := eI) (f := fun x45 => x45.2.2.1) (xe_var (eT4 eI (eV (eT2 eI eI)) eI eI) rfl) (fun _ _ => rfl))) (px_of fun _ => (xe_ixF (B := eI) (f := fun x46 => x46.2.2.2) (xe_var (eT4 eI (eV (eT2 eI eI)) eI eI) rfl) (fun _ _ => rfl))) (fun _ _ _ _ => rfl)) (fun _ => s_law_loose _))) (fun x37 => (.keep (.keep (.keep (.keep (.keep (.keep (.keep (.keep (.keep .nil))))))))))) (pn_of fun _ => (sn_st (f := fun _ => x10) (sl' := fun s32 : (Int × (List (Int × Int)) × Int × Int) => [.val (eF_ v_script), .val (.lr p), .val (eI a8), .val ((eT4 eI (eV (eT2 eI eI)) eI eI) s32), .unk, .unk, .unk, .unk, .unk]) sn_nx (fun _ => (.keep (.keep (.keep (.keep (.keep (.keep (.keep (.keep (.keep .nil))))))))))))) (fun s32 => (pb_seqN (pn_asg (px_if (pt_of fun _ => (xt_B (xe_bin (xe_ixF (B := (eV (eT2 eI eI))) (f := fun x53 => x53.2.1) (xe_var (eT4 eI (eV (eT2 eI eI)) eI eI) rfl) (fun _ _ => rfl)) (xe_tup0 (C := (eV (eT2 eI eI))) ([] : (List (Int × Int)))  rfl) (op_ne_ (faV (faT2 faI faI)) (by decide))))) (px_pcall1 rfl (px_of fun _ => (xe_var (eT4 eI (eV (eT2 eI eI)) eI eI) rfl)) (fun _ => s_law_row _)) (px_of fun _ => (xe_tup0 (C := (eV eD)) ([] : (List D))  rfl)))) (fun x52 => (pb_seqN (pn_par (px_pcall1 rfl (px_of fun _ => (xe_bin (xe_call1 (xe_var (eV eD) rfl) (fun _ => g_lenV)) (xe_c eI rfl) op_add)) (fun _ => s_law_draw _)) (px_pcall2 rfl (px_of fun _ => (xe_var (eT4 eI (eV (eT2 eI eI)) eI eI) rfl)) (px_of fun _ => (xe_c eI rfl)) (fun _ _ => s_law_some_reduction _ _))) (fun x58 => (pb_of fun _ => (sb_st (f := fun s153 => ()) (sl' := fun s1 : Unit => [.val (eF_ v_script), .val (.lr p), .unk, .unk, .unk, .unk, .unk, .unk, .unk]) (sb_for (slσ := fun s67 : Unit => [.val (eF_ v_script), .val (.lr p), .val (eI a8), .val ((eT4 eI (eV (eT2 eI eI)) eI eI) s32), .val ((eV eD) x52), .unk, .val (eI x58.1), .val (eD x58.2), .unk]) (xi_V (xe_tup6 (C := (eV (eV eD))) (fun x114 x115 x116 x117 x118 x119 => [x114, x115, x116, x117, x118, x119]) (xe_var (eV eD) rfl) (xe_slV (xe_var (eV eD) rfl) xp_none (xp_some (xe_neg (xe_c eI rfl)))) (xe_slV (xe_var (eV eD) rfl) (xp_some (xe_c eI rfl)) xp_none) (xe_bin (xe_bin (xe_slV (xe_var (eV eD) rfl) xp_none (xp_some (xe_var eI rfl))) (xe_tup1 (C := (eV eD)) (fun x104 => [x104]) (xe_var eD rfl) (fun _ => rfl)) op_catV) (xe_slV (xe_var (eV eD) rfl) (xp_some (xe_var eI rfl)) xp_none) op_catV) (xe_revT (xe_var (eV eD) rfl)) (xe_tup0 (C := (eV eD)) ([] : (List D))  rfl) (fun _ _ _ _ _ _ => rfl))) (.keep (.keep (.keep (.keep (.keep (.keep (.keep (.keep (.keep .nil))))))))) (fun s67 a120 => xg_name) (fun s67 a120 => (sb_seqN (sn_asg (xe_call1 (xe_map (B := eD) (f := (eT2 (eT4 eI (eV (eT2 eI eI)) eI eI) (eV eD))) (xe_tup2 (C := (eT2 (eT4 eI (eV (eT2 eI eI)) eI eI) (eV eD))) (fun x125 x126 => (x125, x126)) (xe_var (eT4 eI (eV (eT2 eI eI)) eI eI) rfl) (xe_var (eV eD) rfl) (fun _ _ => rfl)) (fun _ => rfl)) (fun _ => g_reprD))) (fun x122 => (sb_if (xt_or (xt_B (xe_bin (xe_call1 (xe_call2 (xe_var (eT4 eI (eV (eT2 eI eI)) eI eI) rfl) (xe_var (eV eD) rfl) (fun _ _ => s_can_reduce _ _)) (fun _ => (g_repr (faO faI (fun _ => .inr (.inr ⟨_, rfl⟩))) (by decide)))) (xe_call1 (xe_call2 (xe_var (eT4 eI (eV (eT2 eI eI)) eI eI) rfl) (xe_var (eV eD) rfl) (fun _ _ => s_law_reduced_due _ _)) (fun _ => (g_repr (faO faI (fun _ => .inr (.inr ⟨_, rfl⟩))) (by decide)))) op_neS)) (xt_B (xe_bin (xe_call1 (xe_map (B := eD) (f := (eT2 (eT4 eI (eV (eT2 eI eI)) eI eI) (eV eD))) (xe_tup2 (C := (eT2 (eT4 eI (eV (eT2 eI eI)) eI eI) (eV eD))) (fun x132 x133 => (x132, x133)) (xe_var (eT4 eI (eV (eT2 eI eI)) eI eI) rfl) (xe_var (eV eD) rfl) (fun _ _ => rfl)) (fun _ => rfl)) (fun _ => g_reprD)) (xe_var eS rfl) op_neS))) (sb_R (sr_ret (xe_c eB rfl))) (sb_N (sn_st (f := fun _ => ()) (sl' := fun s67 : Unit => [.val (eF_ v_script), .val (.lr p), .val (eI a8), .val ((eT4 eI (eV (eT2 eI eI)) eI eI) s32), .val ((eV eD) x52), .unk, .val (eI x58.1), .val (eD x58.2), .unk]) sn_nx (fun _ => (.keep (.keep (.keep (.keep (.keep (.drop (.keep (.keep (.drop .nil))))))))))))))))) (fun s153 => (.keep (.keep (.drop (.drop (.drop (.keep (.drop (.drop (.keep .nil)))))))))))))))))))))) (fun s155 => (pr_of fun _ => (sr_ret (xe_c eB rfl)))))
end K16
set_option Elab.async false
set_option linter.all false
set_option maxRecDepth 100000
set_option maxHeartbeats 4000000
namespace K14
open PySem PySem.Spec PyProof.Rows L2 MS TM
def M_ways_at : MStm :=
  (mRet (mCall cTuple (mCons (mFz (mLc (mEnum (mCons (mBin fIx (mVar 0) (mC (.int 1))) mNil)) (mgTup (mgCons (mName 2) (mgCons (mName 3) mgNil)) 2) (mB (mBin (fIn false) (mVar 1) (mVar 3))) (mVar 2) [2, 3])) mNil)))
def F_ways_at : DCall := den 2 4 M_ways_at
def M_far_end : MStm :=
  (mSeq (mAsg (mBin fIx (mBin fIx (mVar 0) (mC (.int 1))) (mVar 1)) (mgTup (mgCons (mName 3) (mgCons (mName 4) mgNil)) 2))
    (mRet (mIf (mB (mBin fEq (mVar 2) (mVar 3))) (mVar 4) (mVar 3))))
def F_far_end : DCall := den 3 5 M_far_end
def M_routes_on (R : DCall) : MStm :=
  (mSeq (mIfS (mB (mBin fEq (mBin fIx (mVar 2) (mNeg (mC (.int 1)))) (mBin fIx (mVar 0) (mC (.int 3))))) (mRet (mLstV (mCons (mVar 1) mNil))) mNx)
    (mSeq (mAsg (mLst mNil) (mName 3))
    (mSeq (mFor (mItems (mCall F_ways_at (mCons (mVar 0) (mCons (mBin fIx (mVar 2) (mNeg (mC (.int 1)))) mNil)))) (mName 4) (mSeq (mAsg (mCall F_far_end (mCons (mVar 0) (mCons (mVar 4) (mCons (mBin fIx (mVar 2) (mNeg (mC (.int 1)))) mNil)))) (mName 5))
    (mIfS (mB (mBin (fIn true) (mVar 5) (mVar 2))) (mDrop (mExtV (mVar 3) (mCons (mCall R (mCons (mVar 0) (mCons (mBin fAdd (mVar 1) (mTup (mCons (mVar 4) mNil))) (mCons (mBin fAdd (mVar 2) (mTup (mCons (mVar 5) mNil))) mNil)))) mNil))) mNx)))
    (mRet (mFz (mVar 3))))))
def F_routes_onR : Nat → DCall
  | 0 => fun _ _ => none
  | n + 1 => den 3 6 (M_routes_on (F_routes_onR n))
abbrev F_routes_on : DCall := F_routes_onR 12
def M_routes_of : MStm :=
  (mRet (mCall cTuple (mCons (mCall (cFz cSortedT) (mCons (mCall F_routes_on (mCons (mVar 0) (mCons (mTup mNil) (mCons (mTup (mCons (mBin fIx (mVar 0) (mC (.int 2))) mNil)) mNil)))) mNil)) mNil)))
def F_routes_of : DCall := den 1 1 M_routes_of
def M_side_in : MStm :=
  (mSeq (mAsg (mBin fIx (mVar 0) (mC (.int 2))) (mName 3))
    (mSeq (mFor (mItems (mVar 1)) (mName 4) (mSeq (mIfS (mB (mBin fEq (mVar 4) (mVar 2))) (mRet (mIf (mB (mBin fEq (mVar 3) (mBin fIx (mBin fIx (mBin fIx (mVar 0) (mC (.int 1))) (mVar 2)) (mC (.int 0))))) (mC (.int 1)) (mNeg (mC (.int 1))))) mNx)
    (mAsg (mCall F_far_end (mCons (mVar 0) (mCons (mVar 4) (mCons (mVar 3) mNil)))) (mName 3))))
    (mRet (mC (.int 0)))))
def F_side_in : DCall := den 3 5 M_side_in
def M_route_using : MStm :=
  (mSeq (mFor (mItems (mCall F_routes_of (mCons (mVar 0) mNil))) (mName 3) (mIfS (mB (mBin fEq (mCall F_side_in (mCons (mVar 0) (mCons (mVar 3) (mCons (mVar 1) mNil)))) (mVar 2))) (mRet (mVar 3)) mNx))
    (mRet (mC .non)))
def F_route_using : DCall := den 3 4 M_route_using
def M_sides_of : MStm :=
  (mRet (mCall cTuple (mCons (mFz (mLc (mItems (mTup (mCons (mNeg (mC (.int 1))) (mCons (mC (.int 1)) mNil)))) (mName 2) (mB (mBin fIsNot (mCall F_route_using (mCons (mVar 0) (mCons (mVar 1) (mCons (mVar 2) mNil)))) (mC .non))) (mVar 2) [2])) mNil)))
def F_sides_of : DCall := den 2 3 M_sides_of
def M_turning_ways : MStm :=
  (mRet (mCall cTuple (mCons (mFz (mLc (mRange1 (mCons (mCall cLen (mCons (mBin fIx (mVar 0) (mC (.int 1))) mNil)) mNil)) (mName 1) (mB (mBin fEq (mCall cLen (mCons (mCall F_sides_of (mCons (mVar 0) (mCons (mVar 1) mNil))) mNil)) (mC (.int 2)))) (mVar 1) [1])) mNil)))
def F_turning_ways : DCall := den 1 2 M_turning_ways
def M_law_routes (R : DCall) : MStm :=
  (mSeq (mIfS (mB (mBin fEq (mVar 1) (mBin fIx (mVar 0) (mC (.int 3))))) (mRet (mLstV (mCons (mTup mNil) mNil))) mNx)
    (mSeq (mAsg (mLst mNil) (mName 3))
    (mSeq (mFor (mEnum (mCons (mBin fIx (mVar 0) (mC (.int 1))) mNil)) (mgTup (mgCons (mName 4) (mgCons (mName 5) mgNil)) 2) (mIfS (mB (mBin (fIn false) (mVar 1) (mVar 5))) (mSeq (mAsg (mIf (mB (mBin fEq (mBin fIx (mVar 5) (mC (.int 0))) (mVar 1))) (mBin fIx (mVar 5) (mC (.int 1))) (mBin fIx (mVar 5) (mC (.int 0)))) (mName 6))
    (mIfS (mB (mBin (fIn true) (mVar 6) (mVar 2))) (mDrop (mExtV (mVar 3) (mCons (mFz (mLc (mItems (mCall R (mCons (mVar 0) (mCons (mVar 6) (mCons (mBin fAdd (mVar 2) (mTup (mCons (mVar 6) mNil))) mNil))))) (mName 7) mYes (mBin fAdd (mTup (mCons (mVar 4) mNil)) (mVar 7)) [7])) mNil))) mNx)) mNx))
    (mRet (mFz (mVar 3))))))
def F_law_routesR : Nat → DCall
  | 0 => fun _ _ => none
  | n + 1 => den 3 8 (M_law_routes (F_law_routesR n))
abbrev F_law_routes : DCall := F_law_routesR 12
def M_law_all_routes : MStm :=
  (mRet (mCall (cFz cSortedT) (mCons (mCall F_law_routes (mCons (mVar 0) (mCons (mBin fIx (mVar 0) (mC (.int 2))) (mCons (mTup (mCons (mBin fIx (mVar 0) (mC (.int 2))) mNil)) mNil)))) mNil)))
def F_law_all_routes : DCall := den 1 1 M_law_all_routes
def M_law_side : MStm :=
  (mSeq (mAsg (mBin fIx (mVar 0) (mC (.int 2))) (mName 3))
    (mSeq (mFor (mItems (mVar 1)) (mName 4) (mSeq (mAsg (mBin fIx (mBin fIx (mVar 0) (mC (.int 1))) (mVar 4)) (mgTup (mgCons (mName 5) (mgCons (mName 6) mgNil)) 2))
    (mSeq (mIfS (mB (mBin fEq (mVar 4) (mVar 2))) (mRet (mIf (mB (mBin fEq (mVar 3) (mVar 5))) (mC (.int 1)) (mNeg (mC (.int 1))))) mNx)
    (mAsg (mIf (mB (mBin fEq (mVar 3) (mVar 5))) (mVar 6) (mVar 5)) (mName 3)))))
    (mRet (mC (.int 0)))))
def F_law_side : DCall := den 3 7 M_law_side
def M_law_turning : MStm :=
  (mSeq (mPar 2 3 (mCons (mCall F_law_all_routes (mCons (mVar 0) mNil)) (mCons (mLst mNil) mNil)))
    (mSeq (mFor (mRange1 (mCons (mCall cLen (mCons (mBin fIx (mVar 0) (mC (.int 1))) mNil)) mNil)) (mName 1) (mSeq (mAsg (mFz (mLc (mItems (mVar 2)) (mName 5) mYes (mCall F_law_side (mCons (mVar 0) (mCons (mVar 5) (mCons (mVar 1) mNil)))) [5])) (mName 4))
    (mIfS (mAnd (mB (mBin (fIn false) (mC (.int 1)) (mVar 4))) (mB (mBin (fIn false) (mNeg (mC (.int 1))) (mVar 4)))) (mDrop (mApp (mVar 3) (mCons (mVar 1) mNil))) mNx)))
    (mRet (mFz (mVar 3)))))
def F_law_turning : DCall := den 1 6 M_law_turning
abbrev N_law : List Str := ["script", "pen", "turn", "mine", "w", "before", "due", "sides", "route", "side"]
def M_law : MStm :=
  (mSeq (mAsg (mCall F_law_pen (mCons (mVar 0) mNil)) (mName 1))
    (mSeq (mFor (mRange1 (mCons (mCall cMax (mCons (mC (.int 2)) (mCons (mCall cMin (mCons (mC (.int 6)) (mCons (mCall cLen (mCons (mVar 0) mNil)) mNil))) mNil))) mNil)) (mName 2) (mSeq (mAsg (mIf (mB (mBin fGt (mCall F_law_draw (mCons (mVar 1) (mCons (mC (.int 3)) mNil))) (mC (.int 0)))) (mCall F_law_mine (mCons (mVar 1) (mCons (mBin fAdd (mC (.int 2)) (mCall F_law_draw (mCons (mVar 1) (mCons (mC (.int 5)) mNil)))) (mCons (mC (.int 9)) mNil)))) (mCall F_law_bridge (mCons (mVar 1) mNil))) (mName 3))
    (mSeq (mIfS (mB (mBin fEq (mCall F_law_draw (mCons (mVar 1) (mCons (mC (.int 4)) mNil))) (mC (.int 0)))) (mAsg (mTup (mCons (mBin fIx (mVar 3) (mC (.int 0))) (mCons (mIf (mB (mBin fGt (mCall cLen (mCons (mBin fIx (mVar 3) (mC (.int 1))) mNil)) (mC (.int 1)))) (mSl (mBin fIx (mVar 3) (mC (.int 1))) (mPart (mC (.int 1))) mNoPart) (mBin fIx (mVar 3) (mC (.int 1)))) (mCons (mBin fIx (mVar 3) (mC (.int 2))) (mCons (mBin fIx (mVar 3) (mC (.int 3))) mNil))))) (mName 3)) mNx)
    (mSeq (mIfS (mB (mBin fEq (mCall F_law_draw (mCons (mVar 1) (mCons (mC (.int 6)) mNil))) (mC (.int 0)))) (mAsg (mCall F_law_one_of (mCons (mVar 1) (mCons (mLstV (mCons (mTup (mCons (mBin fIx (mVar 3) (mC (.int 0))) (mCons (mTup mNil) (mCons (mBin fIx (mVar 3) (mC (.int 2))) (mCons (mBin fIx (mVar 3) (mC (.int 3))) mNil))))) (mCons (mCall F_law_mine (mCons (mVar 1) (mCons (mC (.int 4)) (mCons (mC (.int 12)) mNil)))) (mCons (mCall F_law_loose (mCons (mVar 1) (mCons (mVar 3) mNil))) mNil)))) mNil))) (mName 3)) mNx)
    (mSeq (mPar 5 6 (mCons (mCall cRepr (mCons (mVar 3) mNil)) (mCons (mCall F_law_all_routes (mCons (mVar 3) mNil)) mNil)))
    (mSeq (mIfS (mOr (mB (mBin fNe (mCall cRepr (mCons (mCall F_routes_of (mCons (mVar 3) mNil)) mNil)) (mCall cRepr (mCons (mCall cTuple (mCons (mVar 6) mNil)) mNil)))) (mB (mBin fNe (mCall cRepr (mCons (mCall F_turning_ways (mCons (mVar 3) mNil)) mNil)) (mCall cRepr (mCons (mCall cTuple (mCons (mCall F_law_turning (mCons (mVar 3) mNil)) mNil)) mNil))))) (mRet (mC (.bl false))) mNx)
    (mSeq (mFor (mRange1 (mCons (mCall cLen (mCons (mBin fIx (mVar 3) (mC (.int 1))) mNil)) mNil)) (mName 4) (mSeq (mAsg (mFz (mLc (mItems (mVar 6)) (mName 8) mYes (mCall F_law_side (mCons (mVar 3) (mCons (mVar 8) (mCons (mVar 4) mNil)))) [8])) (mName 7))
    (mSeq (mIfS (mB (mBin fNe (mCall cRepr (mCons (mFz (mLc (mItems (mVar 6)) (mName 8) mYes (mCall F_side_in (mCons (mVar 3) (mCons (mVar 8) (mCons (mVar 4) mNil)))) [8])) mNil)) (mCall cRepr (mCons (mVar 7) mNil)))) (mRet (mC (.bl false))) mNx)
    (mIfS (mB (mBin fNe (mCall cRepr (mCons (mCall F_sides_of (mCons (mVar 3) (mCons (mVar 4) mNil))) mNil)) (mCall cRepr (mCons (mCall cTuple (mCons (mSortSetL (mCons (mFz (mLc (mItems (mVar 7)) (mName 9) (mB (mBin fNe (mVar 9) (mC (.int 0)))) (mVar 9) [9])) mNil)) mNil)) mNil)))) (mRet (mC (.bl false))) mNx))))
    (mIfS (mB (mBin fNe (mCall cRepr (mCons (mVar 3) mNil)) (mVar 5))) (mRet (mC (.bl false))) mNx))))))))
    (mRet (mC (.bl true)))))
def F_law : DCall := den 1 10 M_law
end K14
set_option Elab.async false
set_option linter.all false
set_option maxRecDepth 100000
set_option maxHeartbeats 4000000
namespace K14
open PySem PySem.Spec PyProof.Rows L2 MS TM
def t_ways_at (v_mine : (Int × (List (Int × Int)) × Int × Int)) (v_x : Int) : Option (List Int) :=
  (((((((((some v_mine)).bind fun x1 => some x1.2.1)).bind fun x2 => some (enumI x2))).bind fun x7 => compM (fun a3 => (((some v_x)).bind fun x4 => ((((some a3.2)).bind fun x6 => some [x6.1, x6.2])).bind fun x5 => some (decide (x4 ∈ x5)))) (fun a3 => (some a3.1)) x7)).bind fun x8 => some x8)
def t_far_end (v_mine : (Int × (List (Int × Int)) × Int × Int)) (v_w : Int) (v_x : Int) : Option Int :=
  (((((((some v_mine)).bind fun x2 => some x2.2.1)).bind fun x3 => ((some v_w)).bind fun x4 => atT x3 x4)).bind fun x1 => (((((some v_x)).bind fun x5 => ((some x1.1)).bind fun x6 => some (decide (x5 = x6)))).bind fun x7 => cond x7 (some x1.2) (some x1.1)))
def t_routes_on : Nat → (Int × (List (Int × Int)) × Int × Int) → (List Int) → (List Int) → Option (List (List Int))
  | 0, _, _, _ => none
  | n + 1, v_mine, v_begun, v_visited => (((((((some v_visited)).bind fun x3 => ((((some (1 : Int))).bind fun x2 => some (-x2))).bind fun x4 => atT x3 x4)).bind fun x6 => ((((some v_mine)).bind fun x5 => some x5.2.2.2)).bind fun x7 => some (decide (x6 = x7)))).bind fun x1 => cond x1 (((some v_begun)).bind fun x8 => some [x8]) (((some ([] : List (List Int)))).bind fun x9 => (((((((some v_mine)).bind fun x14 => ((((some v_visited)).bind fun x12 => ((((some (1 : Int))).bind fun x11 => some (-x11))).bind fun x13 => atT x12 x13)).bind fun x15 => t_ways_at x14 x15)).bind fun x17 => loopN (fun a16 (s10 : (List (List Int))) => (((((some v_mine)).bind fun x22 => ((some a16)).bind fun x23 => ((((some v_visited)).bind fun x20 => ((((some (1 : Int))).bind fun x19 => some (-x19))).bind fun x21 => atT x20 x21)).bind fun x24 => t_far_end x22 x23 x24)).bind fun x18 => (((((some x18)).bind fun x25 => ((some v_visited)).bind fun x26 => some (!decide (x25 ∈ x26)))).bind fun x27 => cond x27 (((((((some v_mine)).bind fun x36 => ((((some v_begun)).bind fun x31 => ((((some a16)).bind fun x30 => some [x30])).bind fun x32 => extM x31 x32)).bind fun x37 => ((((some v_visited)).bind fun x34 => ((((some x18)).bind fun x33 => some [x33])).bind fun x35 => extM x34 x35)).bind fun x38 => t_routes_on n x36 x37 x38)).bind fun x29 => extM s10 x29)).bind fun x28 => some x28) ((some ()).bind fun _ => some s10)))) x17 x9)).bind fun s39 => (some s39))))
def t_routes_of (v_mine : (Int × (List (Int × Int)) × Int × Int)) : Option (List (List Int)) :=
  (((((((some v_mine)).bind fun x3 => ((some ([] : (List Int)))).bind fun x4 => ((((((some v_mine)).bind fun x1 => some x1.2.2.1)).bind fun x2 => some [x2])).bind fun x5 => t_routes_on 12 x3 x4 x5)).bind fun x6 => cond (ne_ x6) (some (sortT x6)) none)).bind fun x7 => some x7)
def t_side_in (v_mine : (Int × (List (Int × Int)) × Int × Int)) (v_route : (List Int)) (v_w : Int) : Option Int :=
  (((((some v_mine)).bind fun x2 => some x2.2.2.1)).bind fun x1 => (((((some v_route)).bind fun x5 => loopR (fun a4 (s3 : Int) => (((((some a4)).bind fun x7 => ((some v_w)).bind fun x8 => some (decide (x7 = x8)))).bind fun x6 => cond x6 (((((((some s3)).bind fun x13 => ((((((((some v_mine)).bind fun x9 => some x9.2.1)).bind fun x10 => ((some v_w)).bind fun x11 => atT x10 x11)).bind fun x12 => some x12.1)).bind fun x14 => some (decide (x13 = x14)))).bind fun x16 => cond x16 (some (1 : Int)) (((some (1 : Int))).bind fun x15 => some (-x15)))).bind fun x22 => some (Out.rt x22)) (((((((some v_mine)).bind fun x18 => ((some a4)).bind fun x19 => ((some s3)).bind fun x20 => t_far_end x18 x19 x20)).bind fun x17 => some x17)).bind fun x21 => some (Out.nx x21)))) x5 x1)).bind fun o24 => o24.fin (fun s23 => (some (0 : Int))) some))
def t_route_using (v_mine : (Int × (List (Int × Int)) × Int × Int)) (v_w : Int) (v_side : Int) : Option (Option (List Int)) :=
  (((((((some v_mine)).bind fun x2 => t_routes_of x2)).bind fun x4 => loopR (fun a3 (s1 : Unit) => (((((((some v_mine)).bind fun x6 => ((some a3)).bind fun x7 => ((some v_w)).bind fun x8 => t_side_in x6 x7 x8)).bind fun x9 => ((some v_side)).bind fun x10 => some (decide (x9 = x10)))).bind fun x5 => cond x5 (((((some a3)).bind fun x11 => some (some x11))).bind fun x12 => some (Out.rt x12)) ((((some ()).bind fun _ => some ())).bind fun x13 => some (Out.nx x13)))) x4 ())).bind fun o15 => o15.fin (fun s14 => (some (none : (Option (List Int))))) some)
def t_sides_of (v_mine : (Int × (List (Int × Int)) × Int × Int)) (v_w : Int) : Option (List Int) :=
  (((((((((some (1 : Int))).bind fun x2 => some (-x2))).bind fun x3 => ((some (1 : Int))).bind fun x4 => some [x3, x4])).bind fun x10 => compM (fun a5 => (((((some v_mine)).bind fun x6 => ((some v_w)).bind fun x7 => ((some a5)).bind fun x8 => t_route_using x6 x7 x8)).bind fun x9 => some x9.isSome)) (fun a5 => (some a5)) x10)).bind fun x11 => some x11)
def t_turning_ways (v_mine : (Int × (List (Int × Int)) × Int × Int)) : Option (List Int) :=
  (((((((((((some v_mine)).bind fun x1 => some x1.2.1)).bind fun x2 => some (x2.length : Int))).bind fun x3 => rng1 x3)).bind fun x10 => compM (fun a4 => (((((((some v_mine)).bind fun x5 => ((some a4)).bind fun x6 => t_sides_of x5 x6)).bind fun x7 => some (x7.length : Int))).bind fun x8 => ((some (2 : Int))).bind fun x9 => some (decide (x8 = x9)))) (fun a4 => (some a4)) x10)).bind fun x11 => some x11)
def t_law_routes : Nat → (Int × (List (Int × Int)) × Int × Int) → Int → (List Int) → Option (List (List Int))
  | 0, _, _, _ => none
  | n + 1, v_mine, v_x, v_visited => (((((some v_x)).bind fun x3 => ((((some v_mine)).bind fun x2 => some x2.2.2.2)).bind fun x4 => some (decide (x3 = x4)))).bind fun x1 => cond x1 (((some ([] : (List Int)))).bind fun x5 => some [x5]) (((some ([] : List (List Int)))).bind fun x6 => (((((((((some v_mine)).bind fun x8 => some x8.2.1)).bind fun x9 => some (enumI x9))).bind fun x11 => loopN (fun a10 (s7 : (List (List Int))) => (((((some v_x)).bind fun x12 => ((((some a10.2)).bind fun x14 => some [x14.1, x14.2])).bind fun x13 => some (decide (x12 ∈ x13)))).bind fun x15 => cond x15 (((((((((some a10.2)).bind fun x17 => some x17.1)).bind fun x18 => ((some v_x)).bind fun x19 => some (decide (x18 = x19)))).bind fun x22 => cond x22 (((some a10.2)).bind fun x20 => some x20.2) (((some a10.2)).bind fun x21 => some x21.1))).bind fun x16 => (((((some x16)).bind fun x23 => ((some v_visited)).bind fun x24 => some (!decide (x23 ∈ x24)))).bind fun x25 => cond x25 (((((((((some v_mine)).bind fun x31 => ((some x16)).bind fun x32 => ((((some v_visited)).bind fun x29 => ((((some x16)).bind fun x28 => some [x28])).bind fun x30 => extM x29 x30)).bind fun x33 => t_law_routes n x31 x32 x33)).bind fun x38 => compM (fun a34 => (some true)) (fun a34 => (((((some a10.1)).bind fun x35 => some [x35])).bind fun x36 => ((some a34)).bind fun x37 => extM x36 x37)) x38)).bind fun x27 => extM s7 x27)).bind fun x26 => some x26) ((some ()).bind fun _ => some s7))) ((some ()).bind fun _ => some s7))) x11 x6)).bind fun s39 => (some s39))))
def t_law_all_routes (v_mine : (Int × (List (Int × Int)) × Int × Int)) : Option (List (List Int)) :=
  (((((some v_mine)).bind fun x4 => ((((some v_mine)).bind fun x1 => some x1.2.2.1)).bind fun x5 => ((((((some v_mine)).bind fun x2 => some x2.2.2.1)).bind fun x3 => some [x3])).bind fun x6 => t_law_routes 12 x4 x5 x6)).bind fun x7 => cond (ne_ x7) (some (sortT x7)) none)
def t_law_side (v_mine : (Int × (List (Int × Int)) × Int × Int)) (v_route : (List Int)) (v_w : Int) : Option Int :=
  (((((some v_mine)).bind fun x2 => some x2.2.2.1)).bind fun x1 => (((((some v_route)).bind fun x5 => loopR (fun a4 (s3 : Int) => (((((((some v_mine)).bind fun x7 => some x7.2.1)).bind fun x8 => ((some a4)).bind fun x9 => atT x8 x9)).bind fun x6 => (((((some a4)).bind fun x11 => ((some v_w)).bind fun x12 => some (decide (x11 = x12)))).bind fun x10 => cond x10 (((((((some s3)).bind fun x13 => ((some x6.1)).bind fun x14 => some (decide (x13 = x14)))).bind fun x16 => cond x16 (some (1 : Int)) (((some (1 : Int))).bind fun x15 => some (-x15)))).bind fun x22 => some (Out.rt x22)) (((((((((some s3)).bind fun x18 => ((some x6.1)).bind fun x19 => some (decide (x18 = x19)))).bind fun x20 => cond x20 (some x6.2) (some x6.1))).bind fun x17 => some x17)).bind fun x21 => some (Out.nx x21))))) x5 x1)).bind fun o24 => o24.fin (fun s23 => (some (0 : Int))) some))
def t_law_turning (v_mine : (Int × (List (Int × Int)) × Int × Int)) : Option (List Int) :=
  (((((((some v_mine)).bind fun x2 => t_law_all_routes x2)).bind fun x3 => ((some ([] : List Int))).bind fun x4 => some (x3, x4))).bind fun x1 => (((((((((((some v_mine)).bind fun x6 => some x6.2.1)).bind fun x7 => some (x7.length : Int))).bind fun x8 => rng1 x8)).bind fun x10 => loopN (fun a9 (s5 : (List Int)) => (((((some x1.1)).bind fun x16 => compM (fun a12 => (some true)) (fun a12 => (((some v_mine)).bind fun x13 => ((some a12)).bind fun x14 => ((some a9)).bind fun x15 => t_law_side x13 x14 x15)) x16)).bind fun x11 => (((((((some (1 : Int))).bind fun x20 => ((some x11)).bind fun x21 => some (decide (x20 ∈ x21)))).bind fun x22 => cond x22 (((((some (1 : Int))).bind fun x19 => some (-x19))).bind fun x17 => ((some x11)).bind fun x18 => some (decide (x17 ∈ x18))) (some false))).bind fun x23 => cond x23 (((((some a9)).bind fun x25 => pushM s5 x25)).bind fun x24 => some x24) ((some ()).bind fun _ => some s5)))) x10 x1.2)).bind fun s26 => (some s26)))
def t_law (v_script : List Int) : PM Bool :=
  (bP (bP (lP (((((some (2 : Int))).bind fun x5 => ((((some (6 : Int))).bind fun x3 => ((((some v_script)).bind fun x2 => some (x2.length : Int))).bind fun x4 => some (if x4 < x3 then x4 else x3))).bind fun x6 => some (if x6 > x5 then x6 else x5))).bind fun x7 => rng1 x7)) fun x9 => (loopRP (fun a8 (s1 : Unit) => (bP (bP (bP (bP (lP (some (3 : Int))) fun x11 => (t_law_draw x11)) fun x12 => (bP (lP (some (0 : Int))) fun x13 => (lP (some (decide (x13 < x12)))))) fun x19 => (cond x19 (bP (bP (lP (some (2 : Int))) fun x15 => (bP (bP (lP (some (5 : Int))) fun x14 => (t_law_draw x14)) fun x16 => (lP (some (x15 + x16))))) fun x17 => (bP (lP (some (9 : Int))) fun x18 => (t_law_mine x17 x18))) t_law_bridge)) fun x10 => (bP (bP (bP (bP (lP (some (4 : Int))) fun x41 => (t_law_draw x41)) fun x42 => (bP (lP (some (0 : Int))) fun x43 => (lP (some (decide (x42 = x43)))))) fun x44 => (cond x44 (lP (((((((some x10)).bind fun x46 => some x46.1)).bind fun x60 => ((((((((((some x10)).bind fun x47 => some x47.2.1)).bind fun x48 => some (x48.length : Int))).bind fun x49 => ((some (1 : Int))).bind fun x50 => some (decide (x50 < x49)))).bind fun x57 => cond x57 (((((some x10)).bind fun x51 => some x51.2.1)).bind fun x53 => ((((some (1 : Int))).bind fun x52 => some (some x52))).bind fun x54 => ((some none)).bind fun x55 => some (cutT x53 x54 x55)) (((some x10)).bind fun x56 => some x56.2.1))).bind fun x61 => ((((some x10)).bind fun x58 => some x58.2.2.1)).bind fun x62 => ((((some x10)).bind fun x59 => some x59.2.2.2)).bind fun x63 => some (x60, x61, x62, x63))).bind fun x45 => some x45)) (lP ((some ()).bind fun _ => some x10)))) fun s40 => (bP (bP (bP (bP (lP (some (6 : Int))) fun x81 => (t_law_draw x81)) fun x82 => (bP (lP (some (0 : Int))) fun x83 => (lP (some (decide (x82 = x83)))))) fun x84 => (cond x84 (bP (bP (bP (lP (((((some s40)).bind fun x86 => some x86.1)).bind fun x89 => ((some ([] : (List (Int × Int))))).bind fun x90 => ((((some s40)).bind fun x87 => some x87.2.2.1)).bind fun x91 => ((((some s40)).bind fun x88 => some x88.2.2.2)).bind fun x92 => some (x89, x90, x91, x92))) fun x96 => (bP (bP (lP (some (4 : Int))) fun x93 => (bP (lP (some (12 : Int))) fun x94 => (t_law_mine x93 x94))) fun x97 => (bP (bP (lP (some s40)) fun x95 => (t_law_loose x95)) fun x98 => (lP (some [x96, x97, x98]))))) fun x99 => (t_law_one_of x99)) fun x85 => (lP (some x85))) (lP ((some ()).bind fun _ => some s40)))) fun s80 => (lP (((((((some s80)).bind fun x101 => repr_ ((faT4 faI (faV (faT2 faI faI)) faI faI).py x101))).bind fun x103 => ((((some s80)).bind fun x102 => t_law_all_routes x102)).bind fun x104 => some (x103, x104))).bind fun x100 => (((((((((((some s80)).bind fun x113 => t_routes_of x113)).bind fun x114 => repr_ ((faV (faV faI)).py x114))).bind fun x117 => ((((((some x100.2)).bind fun x115 => some x115)).bind fun x116 => repr_ ((faV (faV faI)).py x116))).bind fun x118 => some (!decide (x117 = x118)))).bind fun x119 => cond x119 (some true) (((((((some s80)).bind fun x106 => t_turning_ways x106)).bind fun x107 => repr_ ((faV faI).py x107))).bind fun x111 => ((((((((some s80)).bind fun x108 => t_law_turning x108)).bind fun x109 => some x109)).bind fun x110 => repr_ ((faV faI).py x110))).bind fun x112 => some (!decide (x111 = x112))))).bind fun x105 => cond x105 (((some false)).bind fun x166 => some (Out.rt x166)) (((((((((((some s80)).bind fun x121 => some x121.2.1)).bind fun x122 => some (x122.length : Int))).bind fun x123 => rng1 x123)).bind fun x125 => loopR (fun a124 (s120 : Unit) => (((((some x100.2)).bind fun x131 => compM (fun a127 => (some true)) (fun a127 => (((some s80)).bind fun x128 => ((some a127)).bind fun x129 => ((some a124)).bind fun x130 => t_law_side x128 x129 x130)) x131)).bind fun x126 => (((((((((some x100.2)).bind fun x137 => compM (fun a133 => (some true)) (fun a133 => (((some s80)).bind fun x134 => ((some a133)).bind fun x135 => ((some a124)).bind fun x136 => t_side_in x134 x135 x136)) x137)).bind fun x138 => repr_ ((faL faI).py x138))).bind fun x140 => ((((some x126)).bind fun x139 => repr_ ((faL faI).py x139))).bind fun x141 => some (!decide (x140 = x141)))).bind fun x132 => cond x132 (((some false)).bind fun x157 => some (Out.rt x157)) (((((((((some s80)).bind fun x143 => ((some a124)).bind fun x144 => t_sides_of x143 x144)).bind fun x145 => repr_ ((faV faI).py x145))).bind fun x153 => ((((((((((some x126)).bind fun x149 => compM (fun a146 => (((some a146)).bind fun x147 => ((some (0 : Int))).bind fun x148 => some (!decide (x147 = x148)))) (fun a146 => (some a146)) x149)).bind fun x150 => sortS x150)).bind fun x151 => some x151)).bind fun x152 => repr_ ((faV faI).py x152))).bind fun x154 => some (!decide (x153 = x154)))).bind fun x142 => cond x142 (((some false)).bind fun x155 => some (Out.rt x155)) ((((some ()).bind fun _ => some ())).bind fun x156 => some (Out.nx x156)))))) x125 ())).bind fun o159 => o159.fin (fun s158 => (((((((some s80)).bind fun x161 => repr_ ((faT4 faI (faV (faT2 faI faI)) faI faI).py x161))).bind fun x162 => ((some x100.1)).bind fun x163 => some (!decide (x162 = x163)))).bind fun x160 => cond x160 (((some false)).bind fun x164 => some (Out.rt x164)) ((((some ()).bind fun _ => some ())).bind fun x165 => some (Out.nx x165)))) fun b => some (Out.rt b))))))))) x9 ())) fun o168 => (o168.by (fun s167 => (lP (some true))) fun b => lP (some b)))
end K14
set_option Elab.async false
set_option linter.all false
set_option maxRecDepth 100000
set_option maxHeartbeats 4000000
namespace K14
open PySem PySem.Spec PyProof.Rows L2 MS TM
def isAt (x : Int) (w : Int × Int) : Bool := decide (x ∈ [w.1, w.2])
def far (x : Int) (w : Int × Int) : Int := if x = w.1 then w.2 else w.1
def routesL (ws : List (Int × Int)) (out : Int) : Nat → Int → List Int → List (List Int)
  | 0, _, _ => []
  | n + 1, x, vis => if x = out then [[]] else (enumI ws).flatMap fun a => cond (isAt x a.2) (if far x a.2 ∈ vis then [] else (routesL ws out n (far x a.2) (vis ++ [far x a.2])).map (a.1 :: ·)) []
def okp (x : Int) (vis : List Int) (y : Int) : Bool := decide (y = x) || !decide (y ∈ vis)
def aliveW (x : Int) (vis : List Int) (w : Int × Int) : Bool := okp x vis w.1 && okp x vis w.2
def alive (ws : List (Int × Int)) (x : Int) (vis : List Int) : Nat := ws.countP (aliveW x vis)
def goes (x : Int) (vis : List Int) (w : Int × Int) : Bool := isAt x w && !decide (far x w ∈ vis)
end K14
set_option Elab.async false
set_option linter.all false
set_option maxRecDepth 100000
set_option maxHeartbeats 4000000
namespace K14
open PySem PySem.Spec PyProof.Rows L2 MS TM
local macro_rules | `(tactic| walk_at "st") => `(tactic| first
  | with_reducible refine wo_b ?_ | with_reducible refine wo_some ?_)
structure Sn (M : Mi) (vis : List Int) : Prop where
  nd : vis.Nodup
  bd : ∀ v ∈ vis, 0 ≤ v ∧ v < M.1
def wayK (ws : List (Int × Int)) (k : Int) : Int × Int := ws.getD k.toNat (0, 0)
end K14
set_option Elab.async false
set_option linter.all false
set_option maxRecDepth 100000
set_option maxHeartbeats 4000000
namespace K14
open PySem PySem.Spec PyProof.Rows L2 MS TM
local macro_rules | `(tactic| walk_at "st") => `(tactic| first
  | with_reducible refine wo_b ?_ | with_reducible refine wo_some ?_)
def RT0 (M : Mi) : List (List Int) := routesL M.2.1 M.2.2.2 12 M.2.2.1 [M.2.2.1]
def RT (M : Mi) : List (List Int) := sortT (RT0 M)
end K14
set_option Elab.async false
set_option linter.all false
set_option maxRecDepth 100000
set_option maxHeartbeats 4000000
namespace K14
open PySem PySem.Spec PyProof.Rows L2 MS TM
local macro_rules | `(tactic| walk_at "st") => `(tactic| first
  | with_reducible refine wo_b ?_ | with_reducible refine wo_some ?_)
def sideV (ws : List (Int × Int)) (w x : Int) : Int := if x = (wayK ws w).1 then 1 else -1
def sideL (ws : List (Int × Int)) (w : Int) : Int → List Int → Int
  | _, [] => 0
  | x, k :: r => if k = w then sideV ws w x else sideL ws w (far x (wayK ws k)) r
def sd (M : Mi) (w : Int) (r : List Int) : Int := sideL M.2.1 w M.2.2.1 r
def sidesL (M : Mi) (w : Int) : List Int := (RT M).map (sd M w)
def uses (M : Mi) (w s : Int) : Bool := decide (s ∈ sidesL M w)
def turn (M : Mi) (w : Int) : Bool := uses M w 1 && uses M w (-1)
end K14
set_option Elab.async false
set_option linter.all false
set_option maxRecDepth 100000
set_option maxHeartbeats 4000000
namespace K14
open PySem PySem.Spec PyProof.Rows L2 MS TM
local macro_rules | `(tactic| walk_at "st") => `(tactic| first
  | with_reducible refine wp_b ?_ | with_reducible refine wp_l ?_ | with_reducible refine wo_b ?_ | with_reducible refine wo_some ?_)
end K14
set_option Elab.async false
set_option linter.all false
set_option maxRecDepth 100000
set_option maxHeartbeats 4000000
namespace K74
open PySem PySem.Spec PyProof.Rows L2 MS TM K14
def M_are_integers_within : MStm :=
  (mSeq (mIfS (mOr (mNot (mB (mIsi (mVar 0) "tuple"))) (mB (mBin fNe (mCall cLen (mCons (mVar 0) mNil)) (mVar 1)))) (mRet (mC (.bl false))) mNx)
    (mRet (mCall cAll (mCons (mFz (mLc (mItems (mVar 0)) (mName 4) mYes (mCall F_is_integer_within (mCons (mVar 4) (mCons (mVar 2) (mCons (mVar 3) mNil)))) [4])) mNil))))
def F_are_integers_within : DCall := den 4 5 M_are_integers_within
def M_places_along : MStm :=
  (mSeq (mAsg (mSl (mVar 0) (mPart (mC (.int 2))) (mPart (mC (.int 3)))) (mName 2))
    (mSeq (mFor (mItems (mVar 1)) (mName 3) (mSeq (mAsg (mBin fIx (mVar 2) (mNeg (mC (.int 1)))) (mName 4))
    (mSeq (mIfS (mOr (mB (mBin (fIn true) (mVar 4) (mBin fIx (mBin fIx (mVar 0) (mC (.int 1))) (mVar 3)))) (mB (mBin (fIn false) (mCall F_far_end (mCons (mVar 0) (mCons (mVar 3) (mCons (mVar 4) mNil)))) (mVar 2)))) (mRet (mC .non)) mNx)
    (mAsg (mBin fAdd (mVar 2) (mTup (mCons (mCall F_far_end (mCons (mVar 0) (mCons (mVar 3) (mCons (mVar 4) mNil)))) mNil))) (mName 2)))))
    (mRet (mVar 2))))
def F_places_along : DCall := den 2 5 M_places_along
def M_sum_along : MStm :=
  (mRet (mCall cSum (mCons (mFz (mLc (mItems (mVar 1)) (mName 2) mYes (mBin fIx (mVar 0) (mVar 2)) [2])) mNil)))
def F_sum_along : DCall := den 2 3 M_sum_along
def M_greatest_along : MStm :=
  (mRet (mCall cMaxA (mCons (mFz (mLc (mItems (mCall F_routes_of (mCons (mVar 0) mNil))) (mName 2) mYes (mCall F_sum_along (mCons (mVar 1) (mCons (mVar 2) mNil))) [2])) mNil)))
def F_greatest_along : DCall := den 2 3 M_greatest_along
def M_is_bound : MStm :=
  (mRet (mBin fLe (mCall F_greatest_along (mCons (mVar 0) (mCons (mVar 1) mNil))) (mC (.int 0))))
def F_is_bound : DCall := den 2 2 M_is_bound
def M_ways_on : MStm :=
  (mSeq (mAsg (mCall F_places_along (mCons (mVar 0) (mCons (mVar 1) mNil))) (mName 2))
    (mSeq (mAsg (mBin fIx (mVar 2) (mNeg (mC (.int 1)))) (mName 3))
    (mSeq (mIfS (mB (mBin fEq (mVar 3) (mBin fIx (mVar 0) (mC (.int 3))))) (mRet (mTup mNil)) mNx)
    (mRet (mCall cTuple (mCons (mFz (mLc (mItems (mCall F_ways_at (mCons (mVar 0) (mCons (mVar 3) mNil)))) (mName 4) (mB (mBin (fIn true) (mCall F_far_end (mCons (mVar 0) (mCons (mVar 4) (mCons (mVar 3) mNil)))) (mVar 2))) (mVar 4) [4])) mNil))))))
def F_ways_on : DCall := den 2 5 M_ways_on
def M_place_of : MStm :=
  (mRet (mBin fIx (mCall F_places_along (mCons (mVar 0) (mCons (mVar 1) mNil))) (mNeg (mC (.int 1)))))
def F_place_of : DCall := den 2 2 M_place_of
def M_is_walk_form (R : DCall) : MStm :=
  (mSeq (mIfS (mOr (mNot (mB (mIsi (mVar 2) "tuple"))) (mB (mBin (fIn true) (mCall cLen (mCons (mVar 2) mNil)) (mTup (mCons (mC (.int 1)) (mCons (mC (.int 2)) mNil)))))) (mRet (mC (.bl false))) mNx)
    (mSeq (mIfS (mB (mBin fEq (mCall cLen (mCons (mVar 2) mNil)) (mC (.int 1)))) (mRet (mBin fEqS (mBin fIx (mVar 2) (mC (.int 0))) (mC (.str (Str.ofString "out"))))) mNx)
    (mSeq (mAsg (mVar 2) (mgTup (mgCons (mName 4) (mgCons (mName 5) mgNil)) 2))
    (mSeq (mIfS (mB (mBin fEqS (mVar 4) (mC (.str (Str.ofString "low"))))) (mRet (mCall F_are_integers_within (mCons (mVar 5) (mCons (mBin fIx (mVar 0) (mC (.int 0))) (mCons (mNeg (mC (.int 1000000000))) (mCons (mC (.int 1000000000)) mNil)))))) mNx)
    (mSeq (mAsg (mCall F_ways_on (mCons (mVar 0) (mCons (mVar 1) mNil))) (mName 3))
    (mSeq (mIfS (mOr (mB (mBin fNeS (mVar 4) (mC (.str (Str.ofString "on"))))) (mOr (mNot (mB (mIsi (mVar 5) "tuple"))) (mB (mBin fNe (mCall cLen (mCons (mVar 5) mNil)) (mCall cLen (mCons (mVar 3) mNil)))))) (mRet (mC (.bl false))) mNx)
    (mRet (mCall cAll (mCons (mFz (mLc (mZipT (mCons (mVar 3) (mCons (mVar 5) mNil))) (mgTup (mgCons (mName 6) (mgCons (mName 7) mgNil)) 2) mYes (mCall R (mCons (mVar 0) (mCons (mBin fAdd (mVar 1) (mTup (mCons (mVar 6) mNil))) (mCons (mVar 7) mNil)))) [6, 7])) mNil)))))))))
def F_is_walk_formR : Nat → DCall
  | 0 => fun _ _ => none
  | n + 1 => den 3 8 (M_is_walk_form (F_is_walk_formR n))
abbrev F_is_walk_form : DCall := F_is_walk_formR 12
def M_is_low : MStm :=
  (mSeq (mAsg (mSl (mCall F_places_along (mCons (mVar 0) (mCons (mVar 2) mNil))) mNoPart (mPart (mNeg (mC (.int 1))))) (mName 4))
    (mSeq (mFor (mEnum (mCons (mBin fIx (mVar 0) (mC (.int 1))) mNil)) (mgTup (mgCons (mName 5) (mgCons (mgTup (mgCons (mName 6) (mgCons (mName 7) mgNil)) 2) mgNil)) 2) (mIfS (mAnd (mB (mBin (fIn true) (mVar 6) (mVar 4))) (mAnd (mB (mBin (fIn true) (mVar 7) (mVar 4))) (mB (mBin fGt (mBin fAdd (mBin fIx (mVar 1) (mVar 5)) (mCall cAbs (mCons (mBin fSub (mBin fIx (mVar 3) (mVar 6)) (mBin fIx (mVar 3) (mVar 7))) mNil))) (mC (.int 0)))))) (mRet (mC (.bl false))) mNx))
    (mRet (mBin fLe (mCall F_sum_along (mCons (mVar 1) (mCons (mVar 2) mNil))) (mCall cAbs (mCons (mBin fSub (mBin fIx (mVar 3) (mCall F_place_of (mCons (mVar 0) (mCons (mVar 2) mNil)))) (mBin fIx (mVar 3) (mBin fIx (mVar 0) (mC (.int 3))))) mNil))))))
def F_is_low : DCall := den 4 8 M_is_low
def M_wrong_begun (R : DCall) : MStm :=
  (mSeq (mAsg (mBin fEq (mCall F_place_of (mCons (mVar 0) (mCons (mVar 2) mNil))) (mBin fIx (mVar 0) (mC (.int 3)))) (mName 4))
    (mSeq (mIfS (mB (mBin fEqS (mBin fIx (mVar 3) (mC (.int 0))) (mC (.str (Str.ofString "out"))))) (mRet (mIf (mAnd (mB (mVar 4)) (mB (mBin fLe (mCall F_sum_along (mCons (mVar 1) (mCons (mVar 2) mNil))) (mC (.int 0))))) (mC .non) (mVar 2))) mNx)
    (mSeq (mIfS (mB (mBin fEqS (mBin fIx (mVar 3) (mC (.int 0))) (mC (.str (Str.ofString "low"))))) (mRet (mIf (mB (mCall F_is_low (mCons (mVar 0) (mCons (mVar 1) (mCons (mVar 2) (mCons (mBin fIx (mVar 3) (mC (.int 1))) mNil)))))) (mC .non) (mVar 2))) mNx)
    (mSeq (mIfS (mB (mVar 4)) (mRet (mVar 2)) mNx)
    (mSeq (mFor (mZipT (mCons (mCall F_ways_on (mCons (mVar 0) (mCons (mVar 2) mNil))) (mCons (mBin fIx (mVar 3) (mC (.int 1))) mNil))) (mgTup (mgCons (mName 5) (mgCons (mName 6) mgNil)) 2) (mSeq (mAsg (mCall R (mCons (mVar 0) (mCons (mVar 1) (mCons (mBin fAdd (mVar 2) (mTup (mCons (mVar 5) mNil))) (mCons (mVar 6) mNil))))) (mName 7))
    (mIfS (mB (mBin fIsNot (mVar 7) (mC .non))) (mRet (mVar 7)) mNx)))
    (mRet (mC .non)))))))
def F_wrong_begunR : Nat → DCall
  | 0 => fun _ _ => none
  | n + 1 => den 4 8 (M_wrong_begun (F_wrong_begunR n))
abbrev F_wrong_begun : DCall := F_wrong_begunR 12
def M_is_walk : MStm :=
  (mRet (mAndV (mCall F_is_walk_form (mCons (mVar 0) (mCons (mTup mNil) (mCons (mVar 2) mNil)))) (mBin fIs (mCall F_wrong_begun (mCons (mVar 0) (mCons (mVar 1) (mCons (mTup mNil) (mCons (mVar 2) mNil))))) (mC .non))))
def F_is_walk : DCall := den 3 3 M_is_walk
def M_walk_on (R : DCall) : MStm :=
  (mSeq (mIfS (mB (mBin fEq (mCall F_place_of (mCons (mVar 0) (mCons (mVar 1) mNil))) (mBin fIx (mVar 0) (mC (.int 3))))) (mRet (mTup (mCons (mC (.str (Str.ofString "out"))) mNil))) mNx)
    (mRet (mTup (mCons (mC (.str (Str.ofString "on"))) (mCons (mCall cTuple (mCons (mFz (mLc (mItems (mCall F_ways_on (mCons (mVar 0) (mCons (mVar 1) mNil)))) (mName 2) mYes (mCall R (mCons (mVar 0) (mCons (mBin fAdd (mVar 1) (mTup (mCons (mVar 2) mNil))) mNil))) [2])) mNil)) mNil)))))
def F_walk_onR : Nat → DCall
  | 0 => fun _ _ => none
  | n + 1 => den 2 3 (M_walk_on (F_walk_onR n))
abbrev F_walk_on : DCall := F_walk_onR 12
def M_walk_for : MStm :=
  (mRet (mIf (mB (mCall F_is_bound (mCons (mVar 0) (mCons (mVar 1) mNil)))) (mCall F_walk_on (mCons (mVar 0) (mCons (mTup mNil) mNil))) (mC .non)))
def F_walk_for : DCall := den 2 2 M_walk_for
def M_law_some_mine : MStm :=
  (mSeq (mIfS (mB (mBin fEq (mCall F_law_draw (mCons (mVar 0) (mCons (mC (.int 3)) mNil))) (mC (.int 0)))) (mRet (mCall F_law_bridge (mCons (mVar 0) mNil))) mNx)
    (mRet (mCall F_law_mine (mCons (mVar 0) (mCons (mCall F_law_one_of (mCons (mVar 0) (mCons (mLstV (mCons (mC (.int 4)) (mCons (mC (.int 4)) (mCons (mC (.int 4)) (mCons (mC (.int 4)) (mCons (mC (.int 5)) mNil)))))) mNil))) (mCons (mC (.int 7)) mNil))))))
def F_law_some_mine : DCall := den 1 1 M_law_some_mine
def M_law_four_mine : MStm :=
  (mRet (mIf (mB (mBin fEq (mCall F_law_draw (mCons (mVar 0) (mCons (mC (.int 3)) mNil))) (mC (.int 0)))) (mCall F_law_bridge (mCons (mVar 0) mNil)) (mCall F_law_mine (mCons (mVar 0) (mCons (mC (.int 4)) (mCons (mC (.int 6)) mNil))))))
def F_law_four_mine : DCall := den 1 1 M_law_four_mine
def M_law_is_marked : MStm :=
  (mRet (mAndV (mIsi (mVar 0) "tuple") (mAndV (mBin fEq (mCall cLen (mCons (mVar 0) mNil)) (mVar 2)) (mAndV (mIsi (mBin fIx (mVar 0) (mC (.int 0))) "str") (mBin fEqS (mBin fIx (mVar 0) (mC (.int 0))) (mVar 1))))))
def F_law_is_marked : DCall := den 3 3 M_law_is_marked
def M_law_twice_bent : MStm :=
  (mSeq (mIfS (mAnd (mB (mCall F_law_is_tuple (mCons (mVar 1) (mCons (mC (.int 2)) mNil)))) (mB (mBin fEq (mCall F_law_draw (mCons (mVar 0) (mCons (mC (.int 3)) mNil))) (mC (.int 0))))) (mRet (mTup (mCons (mCall F_law_bent (mCons (mVar 0) (mCons (mBin fIx (mVar 1) (mC (.int 0))) (mCons (mVar 2) mNil)))) (mCons (mCall F_law_bent (mCons (mVar 0) (mCons (mBin fIx (mVar 1) (mC (.int 1))) (mCons (mVar 2) mNil)))) mNil)))) mNx)
    (mSeq (mAsg (mCall F_law_bent (mCons (mVar 0) (mCons (mVar 1) (mCons (mVar 2) mNil)))) (mName 3))
    (mRet (mIf (mB (mBin fEq (mCall F_law_draw (mCons (mVar 0) (mCons (mC (.int 2)) mNil))) (mC (.int 0)))) (mCall F_law_bent (mCons (mVar 0) (mCons (mVar 3) (mCons (mVar 2) mNil)))) (mVar 3)))))
def F_law_twice_bent : DCall := den 3 4 M_law_twice_bent
def M_law_plain_mine : MStm :=
  (mSeq (mPar 3 4 (mCons (mLst (mCons (mTup (mCons (mC (.int 0)) (mCons (mC (.int 1)) mNil))) mNil)) (mCons (mC (.int 2)) mNil)))
    (mSeq (mFor (mRange1 (mCons (mCall F_law_draw (mCons (mVar 0) (mCons (mVar 1) mNil))) mNil)) (mName 2) (mSeq (mPar 8 9 (mCons (mCall F_law_draw (mCons (mVar 0) (mCons (mCall cLen (mCons (mVar 3) mNil)) mNil))) (mCons (mCall F_law_draw (mCons (mVar 0) (mCons (mC (.int 7)) mNil))) mNil)))
    (mSeq (mAsg (mBin fIx (mVar 3) (mVar 8)) (mgTup (mgCons (mName 10) (mgCons (mName 11) mgNil)) 2))
    (mIfS (mB (mBin fLt (mVar 9) (mC (.int 3)))) (mDrop (mApp (mVar 3) (mCons (mTup (mCons (mVar 10) (mCons (mVar 11) mNil))) mNil))) (mIfS (mAnd (mB (mBin fLt (mVar 9) (mC (.int 6)))) (mB (mBin fLt (mVar 4) (mC (.int 8))))) (mSeq (mAsg (mTup (mCons (mTup (mCons (mVar 10) (mCons (mVar 4) mNil))) (mCons (mBin fAdd (mVar 4) (mC (.int 1))) mNil))) (mgTup (mgCons (mgSub (mVar 3) (mVar 8)) (mgCons (mName 4) mgNil)) 2))
    (mDrop (mApp (mVar 3) (mCons (mTup (mCons (mBin fSub (mVar 4) (mC (.int 1))) (mCons (mVar 11) mNil))) mNil)))) (mIfS (mB (mBin fLt (mVar 4) (mC (.int 8)))) (mSeq (mDrop (mApp (mVar 3) (mCons (mTup (mCons (mCall F_law_draw (mCons (mVar 0) (mCons (mVar 4) mNil))) (mCons (mVar 4) mNil))) mNil)))
    (mAsg (mBin fAdd (mVar 4) (mC (.int 1))) (mName 4))) mNx))))))
    (mSeq (mPar3 5 6 7 (mCons (mListRg (mVar 4)) (mCons (mLst mNil) (mCons (mLst mNil) mNil))))
    (mSeq (whileN (mB (mBin fNe (mVar 5) (mLstV mNil))) (mDrop (mApp (mVar 6) (mCons (mPop (mVar 5) (mCons (mCall F_law_draw (mCons (mVar 0) (mCons (mCall cLen (mCons (mVar 5) mNil)) mNil))) mNil)) mNil))) 1000)
    (mSeq (whileN (mB (mBin fNe (mVar 3) (mLstV mNil))) (mSeq (mAsg (mPop (mVar 3) (mCons (mCall F_law_draw (mCons (mVar 0) (mCons (mCall cLen (mCons (mVar 3) mNil)) mNil))) mNil)) (mgTup (mgCons (mName 10) (mgCons (mName 11) mgNil)) 2))
    (mDrop (mApp (mVar 7) (mCons (mIf (mB (mBin fEq (mCall F_law_draw (mCons (mVar 0) (mCons (mC (.int 2)) mNil))) (mC (.int 0)))) (mTup (mCons (mBin fIx (mVar 6) (mVar 10)) (mCons (mBin fIx (mVar 6) (mVar 11)) mNil))) (mTup (mCons (mBin fIx (mVar 6) (mVar 11)) (mCons (mBin fIx (mVar 6) (mVar 10)) mNil)))) mNil)))) 1000)
    (mRet (mTup (mCons (mVar 4) (mCons (mCall cTuple (mCons (mVar 7) mNil)) (mCons (mBin fIx (mVar 6) (mC (.int 0))) (mCons (mBin fIx (mVar 6) (mC (.int 1))) mNil)))))))))))
def F_law_plain_mine : DCall := den 2 12 M_law_plain_mine
def M_law_amount_mine : MStm :=
  (mSeq (mAsg (mCall F_law_draw (mCons (mVar 0) (mCons (mC (.int 4)) mNil))) (mName 1))
    (mSeq (mIfS (mB (mBin fEq (mVar 1) (mC (.int 0)))) (mRet (mCall F_law_plain_mine (mCons (mVar 0) (mCons (mC (.int 8)) mNil)))) mNx)
    (mRet (mIf (mB (mBin fEq (mVar 1) (mC (.int 1)))) (mCall F_law_four_mine (mCons (mVar 0) mNil)) (mCall F_law_some_mine (mCons (mVar 0) mNil))))))
def F_law_amount_mine : DCall := den 1 2 M_law_amount_mine
def M_law_along : MStm :=
  (mRet (mCall cSum (mCons (mFz (mLc (mItems (mVar 1)) (mName 2) mYes (mBin fIx (mVar 0) (mVar 2)) [2])) mNil)))
def F_law_along : DCall := den 2 3 M_law_along
def M_law_weights : MStm :=
  (mSeq (mPar 5 6 (mCons (mCall cLen (mCons (mBin fIx (mVar 1) (mC (.int 1))) mNil)) (mCons (mCall F_law_draw (mCons (mVar 0) (mCons (mC (.int 5)) mNil))) mNil)))
    (mSeq (mIfS (mB (mBin fEq (mVar 6) (mC (.int 0)))) (mRet (mCall cTuple (mCons (mFz (mLc (mRange1 (mCons (mVar 5) mNil)) (mName 8) mYes (mCall F_law_one_of (mCons (mVar 0) (mCons (mLstV (mCons (mC (.int 99)) (mCons (mNeg (mC (.int 99))) (mCons (mC (.int 0)) (mCons (mNeg (mC (.int 1))) (mCons (mC (.int 1)) mNil)))))) mNil))) [8])) mNil))) mNx)
    (mSeq (mAsg (mLc (mRange1 (mCons (mVar 5) mNil)) (mName 8) mYes (mBin fSub (mCall F_law_draw (mCons (mVar 0) (mCons (mC (.int 4)) mNil))) (mC (.int 2))) [8]) (mName 2))
    (mSeq (mIfS (mB (mBin fGt (mVar 6) (mC (.int 2)))) (mSeq (mAsg (mLc (mItems (mVar 2)) (mName 10) mYes (mNeg (mCall cAbs (mCons (mVar 10) mNil))) [10]) (mName 2))
    (mAsg (mC (.int 1)) (mgSub (mVar 2) (mCall F_law_draw (mCons (mVar 0) (mCons (mVar 5) mNil)))))) mNx)
    (mSeq (mAsg (mCall F_law_all_routes (mCons (mVar 1) mNil)) (mName 3))
    (mSeq (mFor (mRange1 (mCons (mIf (mB (mBin fGt (mVar 6) (mC (.int 1)))) (mC (.int 20)) (mC (.int 0))) mNil)) (mName 4) (mSeq (mAsg (mFz (mLc (mItems (mVar 3)) (mName 11) (mB (mBin fGt (mCall (lendP 0 F_law_along) (mCons (mVar 2) (mCons (mVar 11) mNil))) (mC (.int 0)))) (mVar 11) [11])) (mName 7))
    (mIfS (mB (mBin fNe (mVar 7) (mLstV mNil))) (mSeq (mAsg (mCall F_law_one_of (mCons (mVar 0) (mCons (mCall (cFz cList) (mCons (mBin fIx (mVar 7) (mC (.int 0))) mNil)) mNil))) (mName 9))
    (mAsg (mCall cMax (mCons (mNeg (mC (.int 99))) (mCons (mBin fSub (mBin fIx (mVar 2) (mVar 9)) (mCall (lendP 0 F_law_along) (mCons (mVar 2) (mCons (mBin fIx (mVar 7) (mC (.int 0))) mNil)))) mNil))) (mgSub (mVar 2) (mVar 9)))) mNx)))
    (mRet (mCall cTuple (mCons (mVar 2) mNil)))))))))
def F_law_weights : DCall := den 2 12 M_law_weights
def M_law_visited : MStm :=
  (mSeq (mAsg (mLst (mCons (mBin fIx (mVar 0) (mC (.int 2))) mNil)) (mName 2))
    (mSeq (mFor (mItems (mVar 1)) (mName 3) (mSeq (mAsg (mBin fIx (mBin fIx (mVar 0) (mC (.int 1))) (mVar 3)) (mgTup (mgCons (mName 4) (mgCons (mName 5) mgNil)) 2))
    (mDrop (mApp (mVar 2) (mCons (mIf (mB (mBin fEq (mBin fIx (mVar 2) (mNeg (mC (.int 1)))) (mVar 4))) (mVar 5) (mVar 4)) mNil)))))
    (mRet (mFz (mVar 2)))))
def F_law_visited : DCall := den 2 6 M_law_visited
def M_law_ways_on : MStm :=
  (mSeq (mAsg (mTup (mCons (mCall F_law_visited (mCons (mVar 0) (mCons (mVar 1) mNil))) (mCons (mLst mNil) mNil))) (mgTup (mgCons (mName 2) (mgCons (mName 3) mgNil)) 2))
    (mSeq (mIfS (mB (mBin fEq (mBin fIx (mVar 2) (mNeg (mC (.int 1)))) (mBin fIx (mVar 0) (mC (.int 3))))) (mRet (mLstV mNil)) mNx)
    (mSeq (mFor (mEnum (mCons (mBin fIx (mVar 0) (mC (.int 1))) mNil)) (mgTup (mgCons (mName 4) (mgCons (mName 5) mgNil)) 2) (mIfS (mAnd (mB (mBin (fIn false) (mBin fIx (mVar 2) (mNeg (mC (.int 1)))) (mVar 5))) (mB (mBin fNe (mFz (mLc (mItems (mVar 5)) (mName 6) (mB (mBin (fIn true) (mVar 6) (mVar 2))) (mVar 6) [6])) (mLstV mNil)))) (mDrop (mApp (mVar 3) (mCons (mVar 4) mNil))) mNx))
    (mRet (mFz (mVar 3))))))
def F_law_ways_on : DCall := den 2 7 M_law_ways_on
def M_law_is_walk_form (R : DCall) : MStm :=
  (mSeq (mIfS (mB (mCall F_law_is_marked (mCons (mVar 2) (mCons (mC (.str (Str.ofString "out"))) (mCons (mC (.int 1)) mNil))))) (mRet (mC (.bl true))) mNx)
    (mSeq (mIfS (mB (mCall F_law_is_marked (mCons (mVar 2) (mCons (mC (.str (Str.ofString "low"))) (mCons (mC (.int 2)) mNil))))) (mSeq (mIfS (mNot (mB (mCall F_law_is_tuple (mCons (mBin fIx (mVar 2) (mC (.int 1))) (mCons (mBin fIx (mVar 0) (mC (.int 0))) mNil))))) (mRet (mC (.bl false))) mNx)
    (mRet (mBin fEq (mFz (mLc (mItems (mBin fIx (mVar 2) (mC (.int 1)))) (mName 6) (mNot (mB (mCall F_law_whole (mCons (mVar 6) (mCons (mNeg (mBin fPow (mC (.int 10)) (mC (.int 9)))) (mCons (mBin fPow (mC (.int 10)) (mC (.int 9))) mNil)))))) (mC (.int 1)) [6])) (mLstV mNil)))) mNx)
    (mSeq (mAsg (mCall F_law_ways_on (mCons (mVar 0) (mCons (mVar 1) mNil))) (mName 3))
    (mSeq (mIfS (mOr (mNot (mB (mCall F_law_is_marked (mCons (mVar 2) (mCons (mC (.str (Str.ofString "on"))) (mCons (mC (.int 2)) mNil)))))) (mNot (mB (mCall F_law_is_tuple (mCons (mBin fIx (mVar 2) (mC (.int 1))) (mCons (mCall cLen (mCons (mVar 3) mNil)) mNil)))))) (mRet (mC (.bl false))) mNx)
    (mSeq (mFor (mEnum (mCons (mVar 3) mNil)) (mgTup (mgCons (mName 4) (mgCons (mName 5) mgNil)) 2) (mIfS (mNot (mB (mCall R (mCons (mVar 0) (mCons (mBin fAdd (mVar 1) (mTup (mCons (mVar 5) mNil))) (mCons (mBin fIx (mBin fIx (mVar 2) (mC (.int 1))) (mVar 4)) mNil)))))) (mRet (mC (.bl false))) mNx))
    (mRet (mC (.bl true))))))))
def F_law_is_walk_formR : Nat → DCall
  | 0 => fun _ _ => none
  | n + 1 => den 3 7 (M_law_is_walk_form (F_law_is_walk_formR n))
abbrev F_law_is_walk_form : DCall := F_law_is_walk_formR 12
def M_law_is_low : MStm :=
  (mSeq (mAsg (mCall F_law_visited (mCons (mVar 0) (mCons (mVar 2) mNil))) (mName 4))
    (mSeq (mFor (mEnum (mCons (mBin fIx (mVar 0) (mC (.int 1))) mNil)) (mgTup (mgCons (mName 5) (mgCons (mgTup (mgCons (mName 6) (mgCons (mName 7) mgNil)) 2) mgNil)) 2) (mIfS (mAnd (mB (mBin (fIn true) (mVar 6) (mSl (mVar 4) mNoPart (mPart (mNeg (mC (.int 1))))))) (mB (mBin (fIn true) (mVar 7) (mSl (mVar 4) mNoPart (mPart (mNeg (mC (.int 1)))))))) (mIfS (mB (mBin fGt (mBin fAdd (mBin fIx (mVar 1) (mVar 5)) (mCall cAbs (mCons (mBin fSub (mBin fIx (mVar 3) (mVar 6)) (mBin fIx (mVar 3) (mVar 7))) mNil))) (mC (.int 0)))) (mRet (mC (.bl false))) mNx) mNx))
    (mRet (mBin fLe (mCall F_law_along (mCons (mVar 1) (mCons (mVar 2) mNil))) (mCall cAbs (mCons (mBin fSub (mBin fIx (mVar 3) (mBin fIx (mVar 4) (mNeg (mC (.int 1))))) (mBin fIx (mVar 3) (mBin fIx (mVar 0) (mC (.int 3))))) mNil))))))
def F_law_is_low : DCall := den 4 8 M_law_is_low
def M_law_walk_path (R : DCall) : MStm :=
  (mSeq (mAsg (mBin fEq (mBin fIx (mCall F_law_visited (mCons (mVar 0) (mCons (mVar 2) mNil))) (mNeg (mC (.int 1)))) (mBin fIx (mVar 0) (mC (.int 3)))) (mName 4))
    (mSeq (mIfS (mB (mBin fEqS (mBin fIx (mVar 3) (mC (.int 0))) (mC (.str (Str.ofString "low"))))) (mRet (mIf (mB (mCall F_law_is_low (mCons (mVar 0) (mCons (mVar 1) (mCons (mVar 2) (mCons (mBin fIx (mVar 3) (mC (.int 1))) mNil)))))) (mLstV mNil) (mLstV (mCons (mVar 2) mNil)))) mNx)
    (mSeq (mIfS (mB (mBin fEqS (mBin fIx (mVar 3) (mC (.int 0))) (mC (.str (Str.ofString "out"))))) (mRet (mIf (mAnd (mB (mVar 4)) (mB (mBin fLe (mCall F_law_along (mCons (mVar 1) (mCons (mVar 2) mNil))) (mC (.int 0))))) (mLstV mNil) (mLstV (mCons (mVar 2) mNil)))) mNx)
    (mSeq (mIfS (mB (mVar 4)) (mRet (mLstV (mCons (mVar 2) mNil))) mNx)
    (mSeq (mFor (mEnum (mCons (mCall F_law_ways_on (mCons (mVar 0) (mCons (mVar 2) mNil))) mNil)) (mgTup (mgCons (mName 5) (mgCons (mName 6) mgNil)) 2) (mSeq (mAsg (mCall R (mCons (mVar 0) (mCons (mVar 1) (mCons (mBin fAdd (mVar 2) (mTup (mCons (mVar 6) mNil))) (mCons (mBin fIx (mBin fIx (mVar 3) (mC (.int 1))) (mVar 5)) mNil))))) (mName 7))
    (mIfS (mB (mBin fNe (mVar 7) (mLstV mNil))) (mRet (mVar 7)) mNx)))
    (mRet (mLstV mNil)))))))
def F_law_walk_pathR : Nat → DCall
  | 0 => fun _ _ => none
  | n + 1 => den 4 8 (M_law_walk_path (F_law_walk_pathR n))
abbrev F_law_walk_path : DCall := F_law_walk_pathR 12
def M_law_full_walk (R : DCall) : MStm :=
  (mSeq (mIfS (mB (mBin fEq (mBin fIx (mCall F_law_visited (mCons (mVar 0) (mCons (mVar 1) mNil))) (mNeg (mC (.int 1)))) (mBin fIx (mVar 0) (mC (.int 3))))) (mRet (mTup (mCons (mC (.str (Str.ofString "out"))) mNil))) mNx)
    (mRet (mTup (mCons (mC (.str (Str.ofString "on"))) (mCons (mCall cTuple (mCons (mFz (mLc (mItems (mCall F_law_ways_on (mCons (mVar 0) (mCons (mVar 1) mNil)))) (mName 2) mYes (mCall R (mCons (mVar 0) (mCons (mBin fAdd (mVar 1) (mTup (mCons (mVar 2) mNil))) mNil))) [2])) mNil)) mNil)))))
def F_law_full_walkR : Nat → DCall
  | 0 => fun _ _ => none
  | n + 1 => den 2 3 (M_law_full_walk (F_law_full_walkR n))
abbrev F_law_full_walk : DCall := F_law_full_walkR 12
abbrev N_law : List Str := ["script", "pen", "turn", "mine", "weights", "is_so", "low", "some", "value", "before", "told", "full", "kept", "due", "route", "x"]
def M_law : MStm :=
  (mSeq (mAsg (mCall F_law_pen (mCons (mVar 0) mNil)) (mName 1))
    (mSeq (mFor (mRange1 (mCons (mCall cMax (mCons (mC (.int 2)) (mCons (mCall cMin (mCons (mC (.int 4)) (mCons (mCall cLen (mCons (mVar 0) mNil)) mNil))) mNil))) mNil)) (mName 2) (mSeq (mAsg (mCall F_law_amount_mine (mCons (mVar 1) mNil)) (mName 3))
    (mSeq (mAsg (mCall F_law_weights (mCons (mVar 1) (mCons (mVar 3) mNil))) (mName 4))
    (mSeq (mPar3 9 10 11 (mCons (mCall cRepr (mCons (mTup (mCons (mVar 3) (mCons (mVar 4) mNil))) mNil)) (mCons (mCall F_walk_for (mCons (mVar 3) (mCons (mVar 4) mNil))) (mCons (mCall F_law_full_walk (mCons (mVar 3) (mCons (mTup mNil) mNil))) mNil))))
    (mSeq (mAsg (mBin fEq (mFz (mLc (mItems (mCall F_law_all_routes (mCons (mVar 3) mNil))) (mName 14) (mB (mBin fGt (mCall F_law_along (mCons (mVar 4) (mCons (mVar 14) mNil))) (mC (.int 0)))) (mVar 14) [14])) (mLstV mNil)) (mName 5))
    (mSeq (mIfS (mB (mBin fNe (mBin fIsNot (mVar 10) (mC .non)) (mVar 5))) (mRet (mC (.bl false))) mNx)
    (mSeq (mIfS (mAnd (mB (mVar 5)) (mNot (mB (mCall F_law_is_walk_form (mCons (mVar 3) (mCons (mTup mNil) (mCons (mVar 10) mNil))))))) (mRet (mC (.bl false))) mNx)
    (mSeq (mIfS (mAnd (mB (mVar 5)) (mB (mBin fNe (mCall F_law_walk_path (mCons (mVar 3) (mCons (mVar 4) (mCons (mTup mNil) (mCons (mVar 10) mNil))))) (mLstV mNil)))) (mRet (mC (.bl false))) mNx)
    (mSeq (mAsg (mTup (mCons (mC (.str (Str.ofString "low"))) (mCons (mCall cTuple (mCons (mFz (mLc (mRange1 (mCons (mBin fIx (mVar 3) (mC (.int 0))) mNil)) (mName 15) mYes (mCall F_law_draw (mCons (mVar 1) (mCons (mC (.int 9)) mNil))) [15])) mNil)) mNil))) (mName 6))
    (mSeq (mAsg (mLstV (mCons (mVar 10) (mCons (mVar 11) (mCons (mVar 6) (mCons (mCall F_law_bent (mCons (mVar 1) (mCons (mVar 11) (mCons (mC (.int 6)) mNil)))) (mCons (mCall F_law_twice_bent (mCons (mVar 1) (mCons (mVar 11) (mCons (mC (.int 8)) mNil)))) (mCons (mTup (mCons (mC (.str (Str.ofString "out"))) mNil)) (mCons (mTup (mCons (mC (.str (Str.ofString "on"))) (mCons (mTup mNil) mNil))) (mCons (mTup (mCons (mVar 10) mNil)) mNil))))))))) (mName 7))
    (mSeq (mIfS (mB (mBin fIsNot (mVar 10) (mC .non))) (mAsg (mBin fAdd (mVar 7) (mLstV (mCons (mCall F_law_bent (mCons (mVar 1) (mCons (mVar 10) (mCons (mC (.int 6)) mNil)))) (mCons (mCall F_law_twice_bent (mCons (mVar 1) (mCons (mVar 10) (mCons (mC (.int 8)) mNil)))) (mCons (mCall (cFz cList) (mCons (mVar 10) mNil)) mNil))))) (mName 7)) mNx)
    (mSeq (mAsg (mBin fAdd (mVar 7) (mLstV (mCons (mTup (mCons (mC (.str (Str.ofString "low"))) (mCons (mSl (mBin fIx (mVar 6) (mC (.int 1))) (mPart (mC (.int 1))) mNoPart) mNil))) (mCons (mTup (mCons (mC (.str (Str.ofString "low"))) (mCons (mCall (cFz cList) (mCons (mBin fIx (mVar 6) (mC (.int 1))) mNil)) mNil))) (mCons (mTup (mCons (mC (.str (Str.ofString "on"))) (mCons (mSl (mVar 11) (mPart (mC (.int 1))) mNoPart) mNil))) (mCons (mTup (mCons (mC (.str (Str.ofString "on"))) mNil)) (mCons (mCall F_law_odd (mCons (mVar 1) mNil)) mNil))))))) (mName 7))
    (mSeq (mFor (mItems (mBin fAdd (mVar 7) (mLstV (mCons (mTup (mCons (mC (.str (Str.ofString "low"))) (mCons (mBin fMulW (mTup (mCons (mBin fAdd (mBin fPow (mC (.int 10)) (mC (.int 9))) (mC (.int 1))) mNil)) (mBin fIx (mVar 3) (mC (.int 0)))) mNil))) (mCons (mTup (mCons (mC (.str (Str.ofString "low"))) (mCons (mBin fMulW (mTup (mCons (mNeg (mBin fPow (mC (.int 10)) (mC (.int 9)))) mNil)) (mBin fIx (mVar 3) (mC (.int 0)))) mNil))) mNil))))) (mName 8) (mSeq (mPar 12 13 (mCons (mCall cReprX (mCons (mVar 8) mNil)) (mCons (mC (.bl false)) mNil)))
    (mSeq (mIfS (mB (mCall F_law_is_walk_form (mCons (mVar 3) (mCons (mTup mNil) (mCons (mVar 8) mNil))))) (mAsg (mBin fEq (mCall F_law_walk_path (mCons (mVar 3) (mCons (mVar 4) (mCons (mTup mNil) (mCons (mVar 8) mNil))))) (mLstV mNil)) (mName 13)) mNx)
    (mIfS (mOr (mB (mBin fNe (mCall cRepr (mCons (mCall F_is_walk (mCons (mVar 3) (mCons (mVar 4) (mCons (mVar 8) mNil)))) mNil)) (mCall cRepr (mCons (mVar 13) mNil)))) (mB (mBin fNe (mCall cReprX (mCons (mVar 8) mNil)) (mVar 12)))) (mRet (mC (.bl false))) mNx))))
    (mIfS (mB (mBin fNe (mCall cRepr (mCons (mTup (mCons (mVar 3) (mCons (mVar 4) mNil))) mNil)) (mVar 9))) (mRet (mC (.bl false))) mNx))))))))))))))
    (mRet (mC (.bl true)))))
def F_law : DCall := den 1 16 M_law
end K74
set_option Elab.async false
set_option linter.all false
set_option maxRecDepth 100000
set_option maxHeartbeats 4000000
namespace K74
open PySem PySem.Spec PyProof.Rows L2 MS TM K14
def t_are_integers_within (v_value : D) (v_many : Int) (v_least : Int) (v_most : Int) : Option Bool :=
  (((((((((some v_value)).bind fun x6 => isiT "tuple" x6)).bind fun x7 => some (!x7))).bind fun x8 => cond x8 (some true) (((((((some v_value)).bind fun x2 => asV x2)).bind fun x3 => some (x3.length : Int))).bind fun x4 => ((some v_many)).bind fun x5 => some (!decide (x4 = x5))))).bind fun x1 => cond x1 (some false) (((((((some v_value)).bind fun x9 => asV x9)).bind fun x14 => compM (fun a10 => (some true)) (fun a10 => (((some a10)).bind fun x11 => ((some v_least)).bind fun x12 => ((some v_most)).bind fun x13 => t_is_integer_within x11 x12 x13)) x14)).bind fun x15 => some (x15.all id)))
def t_places_along (v_mine : (Int × (List (Int × Int)) × Int × Int)) (v_ways : (List Int)) : Option (Option (List Int)) :=
  (((((some v_mine)).bind fun x2 => some [x2.2.2.1])).bind fun x1 => (((((some v_ways)).bind fun x5 => loopR (fun a4 (s3 : (List Int)) => (((((some s3)).bind fun x8 => ((((some (1 : Int))).bind fun x7 => some (-x7))).bind fun x9 => atT x8 x9)).bind fun x6 => (((((((some x6)).bind fun x16 => ((((((((some v_mine)).bind fun x18 => some x18.2.1)).bind fun x19 => ((some a4)).bind fun x20 => atT x19 x20)).bind fun x21 => some [x21.1, x21.2])).bind fun x17 => some (!decide (x16 ∈ x17)))).bind fun x22 => cond x22 (some true) (((((some v_mine)).bind fun x13 => ((some a4)).bind fun x14 => ((some x6)).bind fun x15 => t_far_end x13 x14 x15)).bind fun x11 => ((some s3)).bind fun x12 => some (decide (x11 ∈ x12))))).bind fun x10 => cond x10 (((some (none : (Option (List Int))))).bind fun x31 => some (Out.rt x31)) (((((((some s3)).bind fun x28 => ((((((some v_mine)).bind fun x24 => ((some a4)).bind fun x25 => ((some x6)).bind fun x26 => t_far_end x24 x25 x26)).bind fun x27 => some [x27])).bind fun x29 => extM x28 x29)).bind fun x23 => some x23)).bind fun x30 => some (Out.nx x30))))) x5 x1)).bind fun o34 => o34.fin (fun s32 => (((some s32)).bind fun x33 => some (some x33))) some))
def t_sum_along (v_weights : (List Int)) (v_ways : (List Int)) : Option Int :=
  (((((some v_ways)).bind fun x4 => compM (fun a1 => (some true)) (fun a1 => (((some v_weights)).bind fun x2 => ((some a1)).bind fun x3 => atT x2 x3)) x4)).bind fun x5 => some x5.sum)
def t_greatest_along (v_mine : (Int × (List (Int × Int)) × Int × Int)) (v_weights : (List Int)) : Option Int :=
  (((((((some v_mine)).bind fun x1 => t_routes_of x1)).bind fun x5 => compM (fun a2 => (some true)) (fun a2 => (((some v_weights)).bind fun x3 => ((some a2)).bind fun x4 => t_sum_along x3 x4)) x5)).bind fun x6 => maxI x6)
def t_is_bound (v_mine : (Int × (List (Int × Int)) × Int × Int)) (v_weights : (List Int)) : Option Bool :=
  (((((some v_mine)).bind fun x1 => ((some v_weights)).bind fun x2 => t_greatest_along x1 x2)).bind fun x3 => ((some (0 : Int))).bind fun x4 => some (decide (x3 ≤ x4)))
def t_ways_on (v_mine : (Int × (List (Int × Int)) × Int × Int)) (v_begun : (List Int)) : Option (List Int) :=
  (((((some v_mine)).bind fun x2 => ((some v_begun)).bind fun x3 => t_places_along x2 x3)).bind fun x1 => ((x1).elim none fun y5 => (((((some y5)).bind fun x8 => ((((some (1 : Int))).bind fun x7 => some (-x7))).bind fun x9 => atT x8 x9)).bind fun x6 => (((((some x6)).bind fun x12 => ((((some v_mine)).bind fun x11 => some x11.2.2.2)).bind fun x13 => some (decide (x12 = x13)))).bind fun x10 => cond x10 (some ([] : (List Int))) (((((((some v_mine)).bind fun x14 => ((some x6)).bind fun x15 => t_ways_at x14 x15)).bind fun x22 => compM (fun a16 => (((((some v_mine)).bind fun x19 => ((some a16)).bind fun x20 => ((some x6)).bind fun x21 => t_far_end x19 x20 x21)).bind fun x17 => ((some y5)).bind fun x18 => some (!decide (x17 ∈ x18)))) (fun a16 => (some a16)) x22)).bind fun x23 => some x23)))))
def t_place_of (v_mine : (Int × (List (Int × Int)) × Int × Int)) (v_begun : (List Int)) : Option Int :=
  (((((((some v_mine)).bind fun x1 => ((some v_begun)).bind fun x2 => t_places_along x1 x2)).bind id)).bind fun x4 => ((((some (1 : Int))).bind fun x3 => some (-x3))).bind fun x5 => atT x4 x5)
def t_is_walk_form : Nat → (Int × (List (Int × Int)) × Int × Int) → (List Int) → D → Option Bool
  | 0, _, _, _ => none
  | n + 1, v_mine, v_begun, v_value => (((((((((some v_value)).bind fun x9 => isiT "tuple" x9)).bind fun x10 => some (!x10))).bind fun x11 => cond x11 (some true) (((((((some v_value)).bind fun x4 => asV x4)).bind fun x5 => some (x5.length : Int))).bind fun x2 => ((((((some (1 : Int))).bind fun x6 => ((some (2 : Int))).bind fun x7 => some (x6, x7))).bind fun x8 => some [x8.1, x8.2])).bind fun x3 => some (!decide (x2 ∈ x3))))).bind fun x1 => cond x1 (some false) (((((((((some v_value)).bind fun x13 => asV x13)).bind fun x14 => some (x14.length : Int))).bind fun x15 => ((some (1 : Int))).bind fun x16 => some (decide (x15 = x16)))).bind fun x12 => cond x12 (((((((some v_value)).bind fun x17 => asV x17)).bind fun x18 => ((some (0 : Int))).bind fun x19 => atT x18 x19)).bind fun x20 => ((some (Str.ofString "out"))).bind fun x21 => eqS x20 x21) (((((some v_value)).bind fun x23 => asT2 x23)).bind fun x22 => (((((some x22.1)).bind fun x25 => ((some (Str.ofString "low"))).bind fun x26 => eqS x25 x26)).bind fun x24 => cond x24 (((some x22.2)).bind fun x29 => ((((some v_mine)).bind fun x27 => some x27.1)).bind fun x30 => ((((some (1000000000 : Int))).bind fun x28 => some (-x28))).bind fun x31 => ((some (1000000000 : Int))).bind fun x32 => t_are_integers_within x29 x30 x31 x32) (((((some v_mine)).bind fun x34 => ((some v_begun)).bind fun x35 => t_ways_on x34 x35)).bind fun x33 => (((((((some x22.1)).bind fun x45 => ((some (Str.ofString "on"))).bind fun x46 => (eqS x45 x46).map not)).bind fun x47 => cond x47 (some true) (((((((some x22.2)).bind fun x42 => isiT "tuple" x42)).bind fun x43 => some (!x43))).bind fun x44 => cond x44 (some true) (((((((some x22.2)).bind fun x37 => asV x37)).bind fun x38 => some (x38.length : Int))).bind fun x40 => ((((some x33)).bind fun x39 => some (x39.length : Int))).bind fun x41 => some (!decide (x40 = x41)))))).bind fun x36 => cond x36 (some false) (((((((some x33)).bind fun x48 => ((((some x22.2)).bind fun x50 => asV x50)).bind fun x49 => some (x48.zip x49))).bind fun x58 => compM (fun a51 => (some true)) (fun a51 => (((some v_mine)).bind fun x55 => ((((some v_begun)).bind fun x53 => ((((some a51.1)).bind fun x52 => some [x52])).bind fun x54 => extM x53 x54)).bind fun x56 => ((some a51.2)).bind fun x57 => t_is_walk_form n x55 x56 x57)) x58)).bind fun x59 => some (x59.all id))))))))
def t_is_low (v_mine : (Int × (List (Int × Int)) × Int × Int)) (v_weights : (List Int)) (v_begun : (List Int)) (v_heights : (List D)) : Option Bool :=
  (((((((((some v_mine)).bind fun x2 => ((some v_begun)).bind fun x3 => t_places_along x2 x3)).bind id)).bind fun x6 => ((some none)).bind fun x7 => ((((((some (1 : Int))).bind fun x4 => some (-x4))).bind fun x5 => some (some x5))).bind fun x8 => some (cutT x6 x7 x8))).bind fun x1 => (((((((((some v_mine)).bind fun x10 => some x10.2.1)).bind fun x11 => some (enumI x11))).bind fun x13 => loopR (fun a12 (s9 : Unit) => (((((((some a12.2.1)).bind fun x33 => ((some x1)).bind fun x34 => some (!decide (x33 ∈ x34)))).bind fun x35 => cond x35 (((((some a12.2.2)).bind fun x30 => ((some x1)).bind fun x31 => some (!decide (x30 ∈ x31)))).bind fun x32 => cond x32 (((((((some v_weights)).bind fun x15 => ((some a12.1)).bind fun x16 => atT x15 x16)).bind fun x26 => ((((((((((some v_heights)).bind fun x17 => ((some a12.2.1)).bind fun x18 => atT x17 x18)).bind fun x19 => asI x19)).bind fun x23 => ((((((some v_heights)).bind fun x20 => ((some a12.2.2)).bind fun x21 => atT x20 x21)).bind fun x22 => asI x22)).bind fun x24 => some (x23 - x24))).bind fun x25 => some (if x25 < 0 then -x25 else x25))).bind fun x27 => some (x26 + x27))).bind fun x28 => ((some (0 : Int))).bind fun x29 => some (decide (x29 < x28))) (some false)) (some false))).bind fun x14 => cond x14 (((some false)).bind fun x36 => some (Out.rt x36)) ((((some ()).bind fun _ => some ())).bind fun x37 => some (Out.nx x37)))) x13 ())).bind fun o55 => o55.fin (fun s38 => (((((some v_weights)).bind fun x39 => ((some v_begun)).bind fun x40 => t_sum_along x39 x40)).bind fun x53 => ((((((((((some v_heights)).bind fun x43 => ((((some v_mine)).bind fun x41 => ((some v_begun)).bind fun x42 => t_place_of x41 x42)).bind fun x44 => atT x43 x44)).bind fun x45 => asI x45)).bind fun x50 => ((((((some v_heights)).bind fun x47 => ((((some v_mine)).bind fun x46 => some x46.2.2.2)).bind fun x48 => atT x47 x48)).bind fun x49 => asI x49)).bind fun x51 => some (x50 - x51))).bind fun x52 => some (if x52 < 0 then -x52 else x52))).bind fun x54 => some (decide (x53 ≤ x54)))) some))
def t_wrong_begun : Nat → (Int × (List (Int × Int)) × Int × Int) → (List Int) → (List Int) → D → Option (Option (List Int))
  | 0, _, _, _, _ => none
  | n + 1, v_mine, v_weights, v_begun, v_walk => (((((((some v_mine)).bind fun x2 => ((some v_begun)).bind fun x3 => t_place_of x2 x3)).bind fun x5 => ((((some v_mine)).bind fun x4 => some x4.2.2.2)).bind fun x6 => some (decide (x5 = x6)))).bind fun x1 => (((((((((some v_walk)).bind fun x8 => asV x8)).bind fun x9 => ((some (0 : Int))).bind fun x10 => atT x9 x10)).bind fun x11 => ((some (Str.ofString "out"))).bind fun x12 => eqS x11 x12)).bind fun x7 => cond x7 (((((some x1)).bind fun x17 => cond x17 (((((some v_weights)).bind fun x13 => ((some v_begun)).bind fun x14 => t_sum_along x13 x14)).bind fun x15 => ((some (0 : Int))).bind fun x16 => some (decide (x15 ≤ x16))) (some false))).bind fun x19 => cond x19 (some (none : (Option (List Int)))) (((some v_begun)).bind fun x18 => some (some x18))) (((((((((some v_walk)).bind fun x21 => asV x21)).bind fun x22 => ((some (0 : Int))).bind fun x23 => atT x22 x23)).bind fun x24 => ((some (Str.ofString "low"))).bind fun x25 => eqS x24 x25)).bind fun x20 => cond x20 (((((some v_mine)).bind fun x30 => ((some v_weights)).bind fun x31 => ((some v_begun)).bind fun x32 => ((((((((some v_walk)).bind fun x26 => asV x26)).bind fun x27 => ((some (1 : Int))).bind fun x28 => atT x27 x28)).bind fun x29 => asV x29)).bind fun x33 => t_is_low x30 x31 x32 x33)).bind fun x35 => cond x35 (some (none : (Option (List Int)))) (((some v_begun)).bind fun x34 => some (some x34))) (((some x1)).bind fun x36 => cond x36 (((some v_begun)).bind fun x37 => some (some x37)) (((((((((some v_mine)).bind fun x39 => ((some v_begun)).bind fun x40 => t_ways_on x39 x40)).bind fun x44 => ((((((((some v_walk)).bind fun x41 => asV x41)).bind fun x42 => ((some (1 : Int))).bind fun x43 => atT x42 x43)).bind fun x46 => asV x46)).bind fun x45 => some (x44.zip x45))).bind fun x48 => loopR (fun a47 (s38 : Unit) => (((((some v_mine)).bind fun x53 => ((some v_weights)).bind fun x54 => ((((some v_begun)).bind fun x51 => ((((some a47.1)).bind fun x50 => some [x50])).bind fun x52 => extM x51 x52)).bind fun x55 => ((some a47.2)).bind fun x56 => t_wrong_begun n x53 x54 x55 x56)).bind fun x49 => ((x49).elim ((((some ()).bind fun _ => some ())).bind fun x59 => some (Out.nx x59)) fun y58 => (((((some y58)).bind fun x60 => some (some x60))).bind fun x61 => some (Out.rt x61))))) x48 ())).bind fun o63 => o63.fin (fun s62 => (some (none : (Option (List Int))))) some)))))
def t_is_walk (v_mine : (Int × (List (Int × Int)) × Int × Int)) (v_weights : (List Int)) (v_value : D) : Option Bool :=
  (((((some v_mine)).bind fun x6 => ((some ([] : (List Int)))).bind fun x7 => ((some v_value)).bind fun x8 => t_is_walk_form 12 x6 x7 x8)).bind fun x9 => cond x9 (((((some v_mine)).bind fun x1 => ((some v_weights)).bind fun x2 => ((some ([] : (List Int)))).bind fun x3 => ((some v_value)).bind fun x4 => t_wrong_begun 12 x1 x2 x3 x4)).bind fun x5 => some x5.isNone) (some false))
def t_walk_on : Nat → (Int × (List (Int × Int)) × Int × Int) → (List Int) → Option D
  | 0, _, _ => none
  | n + 1, v_mine, v_begun => (((((((some v_mine)).bind fun x2 => ((some v_begun)).bind fun x3 => t_place_of x2 x3)).bind fun x5 => ((((some v_mine)).bind fun x4 => some x4.2.2.2)).bind fun x6 => some (decide (x5 = x6)))).bind fun x1 => cond x1 (((((some (Str.ofString "out"))).bind fun x7 => some [x7])).bind fun x8 => some ((eV eS) x8)) (((((some (Str.ofString "on"))).bind fun x19 => ((((((((some v_mine)).bind fun x9 => ((some v_begun)).bind fun x10 => t_ways_on x9 x10)).bind fun x17 => compM (fun a11 => (some true)) (fun a11 => (((some v_mine)).bind fun x15 => ((((some v_begun)).bind fun x13 => ((((some a11)).bind fun x12 => some [x12])).bind fun x14 => extM x13 x14)).bind fun x16 => t_walk_on n x15 x16)) x17)).bind fun x18 => some x18)).bind fun x20 => some (x19, x20))).bind fun x21 => some ((eT2 eS (eV eD)) x21)))
def t_walk_for (v_mine : (Int × (List (Int × Int)) × Int × Int)) (v_weights : (List Int)) : Option D :=
  (((((some v_mine)).bind fun x1 => ((some v_weights)).bind fun x2 => t_is_bound x1 x2)).bind fun x5 => cond x5 (((some v_mine)).bind fun x3 => ((some ([] : (List Int)))).bind fun x4 => t_walk_on 12 x3 x4) (some D.non))
def t_law_some_mine  : PM (Int × (List (Int × Int)) × Int × Int) :=
  (bP (bP (bP (lP (some (3 : Int))) fun x2 => (t_law_draw x2)) fun x3 => (bP (lP (some (0 : Int))) fun x4 => (lP (some (decide (x3 = x4)))))) fun x1 => (cond x1 t_law_bridge (bP (bP (lP (((some (4 : Int))).bind fun x5 => ((some (4 : Int))).bind fun x6 => ((some (4 : Int))).bind fun x7 => ((some (4 : Int))).bind fun x8 => ((some (5 : Int))).bind fun x9 => some [x5, x6, x7, x8, x9])) fun x10 => (t_law_one_of x10)) fun x11 => (bP (lP (some (7 : Int))) fun x12 => (t_law_mine x11 x12)))))
def t_law_four_mine  : PM (Int × (List (Int × Int)) × Int × Int) :=
  (bP (bP (bP (lP (some (3 : Int))) fun x1 => (t_law_draw x1)) fun x2 => (bP (lP (some (0 : Int))) fun x3 => (lP (some (decide (x2 = x3)))))) fun x6 => (cond x6 t_law_bridge (bP (lP (some (4 : Int))) fun x4 => (bP (lP (some (6 : Int))) fun x5 => (t_law_mine x4 x5)))))
def t_law_is_marked (v_value : D) (v_word : Str) (v_many : Int) : Option Bool :=
  (((((some v_value)).bind fun x16 => isiT "tuple" x16)).bind fun x17 => cond x17 (((((((((some v_value)).bind fun x11 => asV x11)).bind fun x12 => some (x12.length : Int))).bind fun x13 => ((some v_many)).bind fun x14 => some (decide (x13 = x14)))).bind fun x15 => cond x15 (((((((((some v_value)).bind fun x6 => asV x6)).bind fun x7 => ((some (0 : Int))).bind fun x8 => atT x7 x8)).bind fun x9 => isiT "str" x9)).bind fun x10 => cond x10 (((((((some v_value)).bind fun x1 => asV x1)).bind fun x2 => ((some (0 : Int))).bind fun x3 => atT x2 x3)).bind fun x4 => ((some v_word)).bind fun x5 => eqS x4 x5) (some false)) (some false)) (some false))
def t_law_twice_bent (v_value : D) (v_deep : Int) : PM D :=
  (bP (bP (lP (((some v_value)).bind fun x5 => ((some (2 : Int))).bind fun x6 => t_law_is_tuple x5 x6)) fun x7 => (cond x7 (bP (bP (lP (some (3 : Int))) fun x2 => (t_law_draw x2)) fun x3 => (bP (lP (some (0 : Int))) fun x4 => (lP (some (decide (x3 = x4)))))) (lP (some false)))) fun x1 => (cond x1 (bP (bP (bP (lP (((((some v_value)).bind fun x8 => asV x8)).bind fun x9 => ((some (0 : Int))).bind fun x10 => atT x9 x10)) fun x11 => (bP (lP (some v_deep)) fun x12 => (t_law_bent 12 x11 x12))) fun x18 => (bP (bP (lP (((((some v_value)).bind fun x13 => asV x13)).bind fun x14 => ((some (1 : Int))).bind fun x15 => atT x14 x15)) fun x16 => (bP (lP (some v_deep)) fun x17 => (t_law_bent 12 x16 x17))) fun x19 => (lP (some (x18, x19))))) fun x20 => (lP (some ((eT2 eD eD) x20)))) (bP (bP (lP (some v_value)) fun x22 => (bP (lP (some v_deep)) fun x23 => (t_law_bent 12 x22 x23))) fun x21 => (bP (bP (bP (lP (some (2 : Int))) fun x24 => (t_law_draw x24)) fun x25 => (bP (lP (some (0 : Int))) fun x26 => (lP (some (decide (x25 = x26)))))) fun x29 => (cond x29 (bP (lP (some x21)) fun x27 => (bP (lP (some v_deep)) fun x28 => (t_law_bent 12 x27 x28))) (lP (some x21)))))))
def t_law_plain_mine (v_many : Int) : PM (Int × (List (Int × Int)) × Int × Int) :=
  (bP (lP (((((((some (0 : Int))).bind fun x2 => ((some (1 : Int))).bind fun x3 => some (x2, x3))).bind fun x4 => some [x4])).bind fun x5 => ((some (2 : Int))).bind fun x6 => some (x5, x6))) fun x1 => (bP (bP (bP (bP (lP (some v_many)) fun x8 => (t_law_draw x8)) fun x9 => (lP (rng1 x9))) fun x11 => (loopP (fun a10 (s7 : (List (Int × Int)) × Int) => (bP (bP (bP (lP (some ((s7.1).length : Int))) fun x13 => (t_law_draw x13)) fun x15 => (bP (bP (lP (some (7 : Int))) fun x14 => (t_law_draw x14)) fun x16 => (lP (some (x15, x16))))) fun x12 => (bP (lP (((some x12.1)).bind fun x18 => atT s7.1 x18)) fun x17 => (bP (lP (((some x12.2)).bind fun x19 => ((some (3 : Int))).bind fun x20 => some (decide (x19 < x20)))) fun x21 => (cond x21 (lP (((((((some x17.1)).bind fun x24 => ((some x17.2)).bind fun x25 => some (x24, x25))).bind fun x23 => pushM s7.1 x23)).bind fun x22 => some (x22, s7.2))) (bP (lP (((((some x12.2)).bind fun x28 => ((some (6 : Int))).bind fun x29 => some (decide (x28 < x29)))).bind fun x30 => cond x30 (((some s7.2)).bind fun x26 => ((some (8 : Int))).bind fun x27 => some (decide (x26 < x27))) (some false))) fun x31 => (cond x31 (lP (((((((some x17.1)).bind fun x33 => ((some s7.2)).bind fun x34 => some (x33, x34))).bind fun x37 => ((((some s7.2)).bind fun x35 => ((some (1 : Int))).bind fun x36 => some (x35 + x36))).bind fun x38 => ((some x12.1)).bind fun x39 => (putT s7.1 x39 x37).bind fun x40 => some (x40, x38))).bind fun x32 => (((((((((some x32.2)).bind fun x43 => ((some (1 : Int))).bind fun x44 => some (x43 - x44))).bind fun x45 => ((some x17.2)).bind fun x46 => some (x45, x46))).bind fun x42 => pushM x32.1 x42)).bind fun x41 => some (x41, x32.2)))) (bP (lP (((some s7.2)).bind fun x47 => ((some (8 : Int))).bind fun x48 => some (decide (x47 < x48)))) fun x49 => (cond x49 (bP (bP (bP (bP (lP (some s7.2)) fun x52 => (t_law_draw x52)) fun x53 => (bP (lP (some s7.2)) fun x54 => (lP (some (x53, x54))))) fun x51 => (lP (pushM s7.1 x51))) fun x50 => (lP (((((some s7.2)).bind fun x56 => ((some (1 : Int))).bind fun x57 => some (x56 + x57))).bind fun x55 => some (x50, x55)))) (lP ((some ()).bind fun _ => some (s7.1, s7.2)))))))))))) x11 (x1.1, x1.2))) fun s58 => (bP (lP (((((some s58.2)).bind fun x60 => lrg x60)).bind fun x61 => ((some ([] : List Int))).bind fun x62 => ((some ([] : List (Int × Int)))).bind fun x63 => some (x61, x62, x63))) fun x59 => (bP (whileP (fun s64 : (List Int) × (List Int) => (lP (((some ([] : (List Int)))).bind fun x65 => some (!decide (s64.2 = x65))))) (fun s64 : (List Int) × (List Int) => (bP (bP (bP (bP (lP (some ((s64.2).length : Int))) fun x66 => (t_law_draw x66)) fun x67 => (lP (popC s64.2 x67))) fun x68 => (lP ((pushM s64.1 x68.1).bind fun x69 => some (x68.2, x69)))) fun x70 => (lP (some (x70.2, x70.1))))) 1000 (x59.2.1, x59.1)) fun s71 => (bP (whileP (fun s72 : (List (Int × Int)) × (List (Int × Int)) => (lP (((some ([] : (List (Int × Int))))).bind fun x73 => some (!decide (s72.1 = x73))))) (fun s72 : (List (Int × Int)) × (List (Int × Int)) => (bP (bP (bP (lP (some ((s72.1).length : Int))) fun x74 => (t_law_draw x74)) fun x75 => (lP (popC s72.1 x75))) fun x76 => (bP (bP (bP (bP (bP (lP (some (2 : Int))) fun x79 => (t_law_draw x79)) fun x80 => (bP (lP (some (0 : Int))) fun x81 => (lP (some (decide (x80 = x81)))))) fun x90 => (cond x90 (lP (((((some x76.1.1)).bind fun x82 => atT s71.1 x82)).bind fun x84 => ((((some x76.1.2)).bind fun x83 => atT s71.1 x83)).bind fun x85 => some (x84, x85))) (lP (((((some x76.1.2)).bind fun x86 => atT s71.1 x86)).bind fun x88 => ((((some x76.1.1)).bind fun x87 => atT s71.1 x87)).bind fun x89 => some (x88, x89))))) fun x78 => (lP (pushM s72.2 x78))) fun x77 => (lP (some (x76.2, x77)))))) 1000 (s58.1, x59.2.2)) fun s91 => (lP (((some s58.2)).bind fun x94 => ((some s91.2)).bind fun x95 => ((((some (0 : Int))).bind fun x92 => atT s71.1 x92)).bind fun x96 => ((((some (1 : Int))).bind fun x93 => atT s71.1 x93)).bind fun x97 => some (x94, x95, x96, x97))))))))
def t_law_amount_mine  : PM (Int × (List (Int × Int)) × Int × Int) :=
  (bP (bP (lP (some (4 : Int))) fun x2 => (t_law_draw x2)) fun x1 => (bP (lP (((some x1)).bind fun x4 => ((some (0 : Int))).bind fun x5 => some (decide (x4 = x5)))) fun x3 => (cond x3 (bP (lP (some (8 : Int))) fun x6 => (t_law_plain_mine x6)) (bP (lP (((some x1)).bind fun x7 => ((some (1 : Int))).bind fun x8 => some (decide (x7 = x8)))) fun x9 => (cond x9 t_law_four_mine t_law_some_mine)))))
def t_law_along (v_weights : (List Int)) (v_route : (List Int)) : Option Int :=
  (((((some v_route)).bind fun x4 => compM (fun a1 => (some true)) (fun a1 => (((some v_weights)).bind fun x2 => ((some a1)).bind fun x3 => atT x2 x3)) x4)).bind fun x5 => some x5.sum)
def t_law_alongL (v_weights : (List Int)) (v_route : (List Int)) : Option Int :=
  (((((some v_route)).bind fun x4 => compM (fun a1 => (some true)) (fun a1 => (((some v_weights)).bind fun x2 => ((some a1)).bind fun x3 => atT x2 x3)) x4)).bind fun x5 => some x5.sum)
def t_law_weights (v_mine : (Int × (List (Int × Int)) × Int × Int)) : PM (List Int) :=
  (bP (bP (lP (((((some v_mine)).bind fun x2 => some x2.2.1)).bind fun x3 => some (x3.length : Int))) fun x5 => (bP (bP (lP (some (5 : Int))) fun x4 => (t_law_draw x4)) fun x6 => (lP (some (x5, x6))))) fun x1 => (bP (lP (((some x1.2)).bind fun x8 => ((some (0 : Int))).bind fun x9 => some (decide (x8 = x9)))) fun x7 => (cond x7 (bP (bP (lP (((some x1.1)).bind fun x10 => rng1 x10)) fun x20 => (compP (fun a11 => (lP (some true))) (fun a11 => (bP (lP (((some (99 : Int))).bind fun x14 => ((((some (99 : Int))).bind fun x12 => some (-x12))).bind fun x15 => ((some (0 : Int))).bind fun x16 => ((((some (1 : Int))).bind fun x13 => some (-x13))).bind fun x17 => ((some (1 : Int))).bind fun x18 => some [x14, x15, x16, x17, x18])) fun x19 => (t_law_one_of x19))) x20)) fun x21 => (lP (some x21))) (bP (bP (lP (((some x1.1)).bind fun x23 => rng1 x23)) fun x28 => (compP (fun a24 => (lP (some true))) (fun a24 => (bP (bP (lP (some (4 : Int))) fun x25 => (t_law_draw x25)) fun x26 => (bP (lP (some (2 : Int))) fun x27 => (lP (some (x26 - x27)))))) x28)) fun x22 => (bP (bP (lP (((some x1.2)).bind fun x39 => ((some (2 : Int))).bind fun x40 => some (decide (x40 < x39)))) fun x41 => (cond x41 (bP (lP (compM (fun a43 => (some true)) (fun a43 => (((((some a43)).bind fun x44 => some (if x44 < 0 then -x44 else x44))).bind fun x45 => some (-x45))) x22)) fun x42 => (bP (bP (lP (some (1 : Int))) fun x48 => (bP (bP (lP (some x1.1)) fun x47 => (t_law_draw x47)) fun x49 => (lP (putT x42 x49 x48)))) fun x46 => (lP (some x46)))) (lP ((some ()).bind fun _ => some x22)))) fun s38 => (bP (lP (((some v_mine)).bind fun x51 => t_law_all_routes x51)) fun x50 => (bP (bP (lP (((((((some x1.2)).bind fun x53 => ((some (1 : Int))).bind fun x54 => some (decide (x54 < x53)))).bind fun x55 => cond x55 (some (20 : Int)) (some (0 : Int)))).bind fun x56 => rng1 x56)) fun x58 => (loopP (fun a57 (s52 : (List Int)) => (bP (lP (((some x50)).bind fun x64 => compM (fun a60 => (((((some a60)).bind fun x61 => t_law_alongL s52 x61)).bind fun x62 => ((some (0 : Int))).bind fun x63 => some (decide (x63 < x62)))) (fun a60 => (some a60)) x64)) fun x59 => (bP (lP (((some x59)).bind fun x65 => ((some ([] : (List (List Int))))).bind fun x66 => some (!decide (x65 = x66)))) fun x67 => (cond x67 (bP (bP (lP (((((some x59)).bind fun x69 => ((some (0 : Int))).bind fun x70 => atT x69 x70)).bind fun x71 => some x71)) fun x72 => (t_law_one_of x72)) fun x68 => (lP (((((((((some (99 : Int))).bind fun x74 => some (-x74))).bind fun x81 => ((((((some x68)).bind fun x75 => atT s52 x75)).bind fun x79 => ((((((some x59)).bind fun x76 => ((some (0 : Int))).bind fun x77 => atT x76 x77)).bind fun x78 => t_law_alongL s52 x78)).bind fun x80 => some (x79 - x80))).bind fun x82 => some (if x82 > x81 then x82 else x81))).bind fun x83 => ((some x68)).bind fun x84 => putT s52 x84 x83)).bind fun x73 => some x73))) (lP ((some ()).bind fun _ => some s52)))))) x58 s38)) fun s85 => (lP (some s85)))))))))
def t_law_visited (v_mine : (Int × (List (Int × Int)) × Int × Int)) (v_begun : (List Int)) : Option (List Int) :=
  (((((((some v_mine)).bind fun x2 => some x2.2.2.1)).bind fun x3 => some [x3])).bind fun x1 => (((((some v_begun)).bind fun x6 => loopN (fun a5 (s4 : (List Int)) => (((((((some v_mine)).bind fun x8 => some x8.2.1)).bind fun x9 => ((some a5)).bind fun x10 => atT x9 x10)).bind fun x7 => (((((((((((((some (1 : Int))).bind fun x13 => some (-x13))).bind fun x14 => atT s4 x14)).bind fun x15 => ((some x7.1)).bind fun x16 => some (decide (x15 = x16)))).bind fun x17 => cond x17 (some x7.2) (some x7.1))).bind fun x12 => pushM s4 x12)).bind fun x11 => some x11))) x6 x1)).bind fun s18 => (some s18)))
def t_law_ways_on (v_mine : (Int × (List (Int × Int)) × Int × Int)) (v_begun : (List Int)) : Option (List Int) :=
  (((((((some v_mine)).bind fun x2 => ((some v_begun)).bind fun x3 => t_law_visited x2 x3)).bind fun x4 => ((some ([] : List Int))).bind fun x5 => some (x4, x5))).bind fun x1 => (((((((some x1.1)).bind fun x8 => ((((some (1 : Int))).bind fun x7 => some (-x7))).bind fun x9 => atT x8 x9)).bind fun x11 => ((((some v_mine)).bind fun x10 => some x10.2.2.2)).bind fun x12 => some (decide (x11 = x12)))).bind fun x6 => cond x6 (some ([] : (List Int))) (((((((((some v_mine)).bind fun x14 => some x14.2.1)).bind fun x15 => some (enumI x15))).bind fun x17 => loopN (fun a16 (s13 : (List Int)) => (((((((((some x1.1)).bind fun x28 => ((((some (1 : Int))).bind fun x27 => some (-x27))).bind fun x29 => atT x28 x29)).bind fun x25 => ((((some a16.2)).bind fun x30 => some [x30.1, x30.2])).bind fun x26 => some (decide (x25 ∈ x26)))).bind fun x31 => cond x31 (((((((some a16.2)).bind fun x18 => some [x18.1, x18.2])).bind fun x22 => compM (fun a19 => (((some a19)).bind fun x20 => ((some x1.1)).bind fun x21 => some (!decide (x20 ∈ x21)))) (fun a19 => (some a19)) x22)).bind fun x23 => ((some ([] : (List Int)))).bind fun x24 => some (!decide (x23 = x24))) (some false))).bind fun x32 => cond x32 (((((some a16.1)).bind fun x34 => pushM s13 x34)).bind fun x33 => some x33) ((some ()).bind fun _ => some s13))) x17 x1.2)).bind fun s35 => (some s35))))
def t_law_is_walk_form : Nat → (Int × (List (Int × Int)) × Int × Int) → (List Int) → D → Option Bool
  | 0, _, _, _ => none
  | n + 1, v_mine, v_begun, v_value => (((((some v_value)).bind fun x2 => ((some (Str.ofString "out"))).bind fun x3 => ((some (1 : Int))).bind fun x4 => t_law_is_marked x2 x3 x4)).bind fun x1 => cond x1 (some true) (((((some v_value)).bind fun x6 => ((some (Str.ofString "low"))).bind fun x7 => ((some (2 : Int))).bind fun x8 => t_law_is_marked x6 x7 x8)).bind fun x5 => cond x5 (((((((((((some v_value)).bind fun x10 => asV x10)).bind fun x11 => ((some (1 : Int))).bind fun x12 => atT x11 x12)).bind fun x14 => ((((some v_mine)).bind fun x13 => some x13.1)).bind fun x15 => t_law_is_tuple x14 x15)).bind fun x16 => some (!x16))).bind fun x9 => cond x9 (some false) (((((((((((some v_value)).bind fun x17 => asV x17)).bind fun x18 => ((some (1 : Int))).bind fun x19 => atT x18 x19)).bind fun x20 => asV x20)).bind fun x31 => compM (fun a21 => (((((some a21)).bind fun x27 => ((((((some (10 : Int))).bind fun x22 => ((some (9 : Int))).bind fun x23 => pow_ x22 x23)).bind fun x24 => some (-x24))).bind fun x28 => ((((some (10 : Int))).bind fun x25 => ((some (9 : Int))).bind fun x26 => pow_ x25 x26)).bind fun x29 => t_law_whole x27 x28 x29)).bind fun x30 => some (!x30))) (fun a21 => (some (1 : Int))) x31)).bind fun x32 => ((some ([] : (List Int)))).bind fun x33 => some (decide (x32 = x33)))) (((((some v_mine)).bind fun x35 => ((some v_begun)).bind fun x36 => t_law_ways_on x35 x36)).bind fun x34 => (((((((((some v_value)).bind fun x45 => ((some (Str.ofString "on"))).bind fun x46 => ((some (2 : Int))).bind fun x47 => t_law_is_marked x45 x46 x47)).bind fun x48 => some (!x48))).bind fun x49 => cond x49 (some true) (((((((((some v_value)).bind fun x38 => asV x38)).bind fun x39 => ((some (1 : Int))).bind fun x40 => atT x39 x40)).bind fun x42 => ((((some x34)).bind fun x41 => some (x41.length : Int))).bind fun x43 => t_law_is_tuple x42 x43)).bind fun x44 => some (!x44)))).bind fun x37 => cond x37 (some false) (((((((some x34)).bind fun x51 => some (enumI x51))).bind fun x53 => loopR (fun a52 (s50 : Unit) => (((((((some v_mine)).bind fun x64 => ((((some v_begun)).bind fun x56 => ((((some a52.2)).bind fun x55 => some [x55])).bind fun x57 => extM x56 x57)).bind fun x65 => ((((((((((some v_value)).bind fun x58 => asV x58)).bind fun x59 => ((some (1 : Int))).bind fun x60 => atT x59 x60)).bind fun x61 => asV x61)).bind fun x62 => ((some a52.1)).bind fun x63 => atT x62 x63)).bind fun x66 => t_law_is_walk_form n x64 x65 x66)).bind fun x67 => some (!x67))).bind fun x54 => cond x54 (((some false)).bind fun x68 => some (Out.rt x68)) ((((some ()).bind fun _ => some ())).bind fun x69 => some (Out.nx x69)))) x53 ())).bind fun o71 => o71.fin (fun s70 => (some true)) some)))))
def t_law_is_low (v_mine : (Int × (List (Int × Int)) × Int × Int)) (v_weights : (List Int)) (v_begun : (List Int)) (v_heights : (List D)) : Option Bool :=
  (((((some v_mine)).bind fun x2 => ((some v_begun)).bind fun x3 => t_law_visited x2 x3)).bind fun x1 => (((((((((some v_mine)).bind fun x5 => some x5.2.1)).bind fun x6 => some (enumI x6))).bind fun x8 => loopR (fun a7 (s4 : Unit) => (((((((some a7.2.1)).bind fun x17 => ((((some x1)).bind fun x21 => ((some none)).bind fun x22 => ((((((some (1 : Int))).bind fun x19 => some (-x19))).bind fun x20 => some (some x20))).bind fun x23 => some (cutT x21 x22 x23))).bind fun x18 => some (!decide (x17 ∈ x18)))).bind fun x24 => cond x24 (((some a7.2.2)).bind fun x10 => ((((some x1)).bind fun x14 => ((some none)).bind fun x15 => ((((((some (1 : Int))).bind fun x12 => some (-x12))).bind fun x13 => some (some x13))).bind fun x16 => some (cutT x14 x15 x16))).bind fun x11 => some (!decide (x10 ∈ x11))) (some false))).bind fun x9 => cond x9 (((((((((some v_weights)).bind fun x26 => ((some a7.1)).bind fun x27 => atT x26 x27)).bind fun x37 => ((((((((((some v_heights)).bind fun x28 => ((some a7.2.1)).bind fun x29 => atT x28 x29)).bind fun x30 => asI x30)).bind fun x34 => ((((((some v_heights)).bind fun x31 => ((some a7.2.2)).bind fun x32 => atT x31 x32)).bind fun x33 => asI x33)).bind fun x35 => some (x34 - x35))).bind fun x36 => some (if x36 < 0 then -x36 else x36))).bind fun x38 => some (x37 + x38))).bind fun x39 => ((some (0 : Int))).bind fun x40 => some (decide (x40 < x39)))).bind fun x25 => cond x25 (((some false)).bind fun x41 => some (Out.rt x41)) ((((some ()).bind fun _ => some ())).bind fun x42 => some (Out.nx x42))) ((((some ()).bind fun _ => some ())).bind fun x43 => some (Out.nx x43)))) x8 ())).bind fun o62 => o62.fin (fun s44 => (((((some v_weights)).bind fun x45 => ((some v_begun)).bind fun x46 => t_law_along x45 x46)).bind fun x60 => ((((((((((some v_heights)).bind fun x50 => ((((some x1)).bind fun x48 => ((((some (1 : Int))).bind fun x47 => some (-x47))).bind fun x49 => atT x48 x49)).bind fun x51 => atT x50 x51)).bind fun x52 => asI x52)).bind fun x57 => ((((((some v_heights)).bind fun x54 => ((((some v_mine)).bind fun x53 => some x53.2.2.2)).bind fun x55 => atT x54 x55)).bind fun x56 => asI x56)).bind fun x58 => some (x57 - x58))).bind fun x59 => some (if x59 < 0 then -x59 else x59))).bind fun x61 => some (decide (x60 ≤ x61)))) some))
def t_law_walk_path : Nat → (Int × (List (Int × Int)) × Int × Int) → (List Int) → (List Int) → D → Option (List (List Int))
  | 0, _, _, _, _ => none
  | n + 1, v_mine, v_weights, v_begun, v_walk => (((((((((some v_mine)).bind fun x2 => ((some v_begun)).bind fun x3 => t_law_visited x2 x3)).bind fun x5 => ((((some (1 : Int))).bind fun x4 => some (-x4))).bind fun x6 => atT x5 x6)).bind fun x8 => ((((some v_mine)).bind fun x7 => some x7.2.2.2)).bind fun x9 => some (decide (x8 = x9)))).bind fun x1 => (((((((((some v_walk)).bind fun x11 => asV x11)).bind fun x12 => ((some (0 : Int))).bind fun x13 => atT x12 x13)).bind fun x14 => ((some (Str.ofString "low"))).bind fun x15 => eqS x14 x15)).bind fun x10 => cond x10 (((((some v_mine)).bind fun x20 => ((some v_weights)).bind fun x21 => ((some v_begun)).bind fun x22 => ((((((((some v_walk)).bind fun x16 => asV x16)).bind fun x17 => ((some (1 : Int))).bind fun x18 => atT x17 x18)).bind fun x19 => asV x19)).bind fun x23 => t_law_is_low x20 x21 x22 x23)).bind fun x25 => cond x25 (some ([] : (List (List Int)))) (((some v_begun)).bind fun x24 => some [x24])) (((((((((some v_walk)).bind fun x27 => asV x27)).bind fun x28 => ((some (0 : Int))).bind fun x29 => atT x28 x29)).bind fun x30 => ((some (Str.ofString "out"))).bind fun x31 => eqS x30 x31)).bind fun x26 => cond x26 (((((some x1)).bind fun x36 => cond x36 (((((some v_weights)).bind fun x32 => ((some v_begun)).bind fun x33 => t_law_along x32 x33)).bind fun x34 => ((some (0 : Int))).bind fun x35 => some (decide (x34 ≤ x35))) (some false))).bind fun x38 => cond x38 (some ([] : (List (List Int)))) (((some v_begun)).bind fun x37 => some [x37])) (((some x1)).bind fun x39 => cond x39 (((some v_begun)).bind fun x40 => some [x40]) (((((((((some v_mine)).bind fun x42 => ((some v_begun)).bind fun x43 => t_law_ways_on x42 x43)).bind fun x44 => some (enumI x44))).bind fun x46 => loopR (fun a45 (s41 : Unit) => (((((some v_mine)).bind fun x57 => ((some v_weights)).bind fun x58 => ((((some v_begun)).bind fun x49 => ((((some a45.2)).bind fun x48 => some [x48])).bind fun x50 => extM x49 x50)).bind fun x59 => ((((((((((some v_walk)).bind fun x51 => asV x51)).bind fun x52 => ((some (1 : Int))).bind fun x53 => atT x52 x53)).bind fun x54 => asV x54)).bind fun x55 => ((some a45.1)).bind fun x56 => atT x55 x56)).bind fun x60 => t_law_walk_path n x57 x58 x59 x60)).bind fun x47 => (((((some x47)).bind fun x62 => ((some ([] : (List (List Int))))).bind fun x63 => some (!decide (x62 = x63)))).bind fun x61 => cond x61 (((some x47)).bind fun x64 => some (Out.rt x64)) ((((some ()).bind fun _ => some ())).bind fun x65 => some (Out.nx x65))))) x46 ())).bind fun o67 => o67.fin (fun s66 => (some ([] : (List (List Int))))) some)))))
def t_law_full_walk : Nat → (Int × (List (Int × Int)) × Int × Int) → (List Int) → Option D
  | 0, _, _ => none
  | n + 1, v_mine, v_begun => (((((((((some v_mine)).bind fun x2 => ((some v_begun)).bind fun x3 => t_law_visited x2 x3)).bind fun x5 => ((((some (1 : Int))).bind fun x4 => some (-x4))).bind fun x6 => atT x5 x6)).bind fun x8 => ((((some v_mine)).bind fun x7 => some x7.2.2.2)).bind fun x9 => some (decide (x8 = x9)))).bind fun x1 => cond x1 (((((some (Str.ofString "out"))).bind fun x10 => some [x10])).bind fun x11 => some ((eV eS) x11)) (((((some (Str.ofString "on"))).bind fun x22 => ((((((((some v_mine)).bind fun x12 => ((some v_begun)).bind fun x13 => t_law_ways_on x12 x13)).bind fun x20 => compM (fun a14 => (some true)) (fun a14 => (((some v_mine)).bind fun x18 => ((((some v_begun)).bind fun x16 => ((((some a14)).bind fun x15 => some [x15])).bind fun x17 => extM x16 x17)).bind fun x19 => t_law_full_walk n x18 x19)) x20)).bind fun x21 => some x21)).bind fun x23 => some (x22, x23))).bind fun x24 => some ((eT2 eS (eV eD)) x24)))
def t_law (v_script : List Int) : PM Bool :=
  (bP (bP (lP (((((some (2 : Int))).bind fun x5 => ((((some (4 : Int))).bind fun x3 => ((((some v_script)).bind fun x2 => some (x2.length : Int))).bind fun x4 => some (if x4 < x3 then x4 else x3))).bind fun x6 => some (if x6 > x5 then x6 else x5))).bind fun x7 => rng1 x7)) fun x9 => (loopRP (fun a8 (s1 : Unit) => (bP t_law_amount_mine fun x10 => (bP (bP (lP (some x10)) fun x12 => (t_law_weights x12)) fun x11 => (bP (lP (((((((some x10)).bind fun x16 => ((some x11)).bind fun x17 => some (x16, x17))).bind fun x18 => repr_ ((faT2 (faT4 faI (faV (faT2 faI faI)) faI faI) (faV faI)).py x18))).bind fun x23 => ((((some x10)).bind fun x19 => ((some x11)).bind fun x20 => t_walk_for x19 x20)).bind fun x24 => ((((some x10)).bind fun x21 => ((some ([] : (List Int)))).bind fun x22 => t_law_full_walk 12 x21 x22)).bind fun x25 => some (x23, x24, x25))) fun x13 => (bP (lP (((((((some x10)).bind fun x27 => t_law_all_routes x27)).bind fun x33 => compM (fun a28 => (((((some x11)).bind fun x29 => ((some a28)).bind fun x30 => t_law_along x29 x30)).bind fun x31 => ((some (0 : Int))).bind fun x32 => some (decide (x32 < x31)))) (fun a28 => (some a28)) x33)).bind fun x34 => ((some ([] : (List (List Int))))).bind fun x35 => some (decide (x34 = x35)))) fun x26 => (bP (lP (((((some x13.2.1)).bind fun x37 => some (!x37.isNon))).bind fun x38 => ((some x26)).bind fun x39 => some (!decide (x38 = x39)))) fun x36 => (cond x36 (lP (((some false)).bind fun x237 => some (Out.rt x237))) (bP (lP (((some x26)).bind fun x45 => cond x45 (((((some x10)).bind fun x41 => ((some ([] : (List Int)))).bind fun x42 => ((some x13.2.1)).bind fun x43 => t_law_is_walk_form 12 x41 x42 x43)).bind fun x44 => some (!x44)) (some false))) fun x40 => (cond x40 (lP (((some false)).bind fun x236 => some (Out.rt x236))) (bP (lP (((some x26)).bind fun x53 => cond x53 (((((some x10)).bind fun x47 => ((some x11)).bind fun x48 => ((some ([] : (List Int)))).bind fun x49 => ((some x13.2.1)).bind fun x50 => t_law_walk_path 12 x47 x48 x49 x50)).bind fun x51 => ((some ([] : (List (List Int))))).bind fun x52 => some (!decide (x51 = x52))) (some false))) fun x46 => (cond x46 (lP (((some false)).bind fun x235 => some (Out.rt x235))) (bP (bP (lP (some (Str.ofString "low"))) fun x61 => (bP (bP (bP (lP (((((some x10)).bind fun x55 => some x55.1)).bind fun x56 => rng1 x56)) fun x59 => (compP (fun a57 => (lP (some true))) (fun a57 => (bP (lP (some (9 : Int))) fun x58 => (t_law_draw x58))) x59)) fun x60 => (lP (some x60))) fun x62 => (lP (some (x61, x62))))) fun x54 => (bP (bP (bP (lP (some x13.2.1)) fun x90 => (bP (bP (lP (some x13.2.2)) fun x88 => (bP (bP (lP (((some x54)).bind fun x72 => some ((eT2 eS (eV eI)) x72))) fun x86 => (bP (bP (bP (lP (some x13.2.2)) fun x64 => (bP (lP (some (6 : Int))) fun x65 => (t_law_bent 12 x64 x65))) fun x84 => (bP (bP (bP (lP (some x13.2.2)) fun x66 => (bP (lP (some (8 : Int))) fun x67 => (t_law_twice_bent x66 x67))) fun x82 => (bP (lP (((((((some (Str.ofString "out"))).bind fun x68 => some [x68])).bind fun x73 => some ((eV eS) x73))).bind fun x80 => ((((((((some (Str.ofString "on"))).bind fun x69 => ((some ([] : (List D)))).bind fun x70 => some (x69, x70))).bind fun x74 => some ((eT2 eS (eV eD)) x74))).bind fun x78 => ((((((((some x13.2.1)).bind fun x71 => some [x71])).bind fun x75 => some ((eV eD) x75))).bind fun x76 => ((some ([] : List D))).bind fun x77 => some (x76 :: x77))).bind fun x79 => some (x78 :: x79))).bind fun x81 => some (x80 :: x81))) fun x83 => (lP (some (x82 :: x83))))) fun x85 => (lP (some (x84 :: x85))))) fun x87 => (lP (some (x86 :: x87))))) fun x89 => (lP (some (x88 :: x89))))) fun x91 => (lP (some (x90 :: x91))))) fun x92 => (cond (Nat.ble x92.length 16777216) (lP (some x92)) (lP none))) fun x63 => (bP (bP (lP (((some x13.2.1)).bind fun x108 => some (!x108.isNon))) fun x109 => (cond x109 (bP (bP (lP (some x63)) fun x121 => (bP (bP (bP (lP (some x13.2.1)) fun x111 => (bP (lP (some (6 : Int))) fun x112 => (t_law_bent 12 x111 x112))) fun x118 => (bP (bP (lP (some x13.2.1)) fun x113 => (bP (lP (some (8 : Int))) fun x114 => (t_law_twice_bent x113 x114))) fun x119 => (bP (lP (((((((some x13.2.1)).bind fun x115 => asV x115)).bind fun x116 => some x116)).bind fun x117 => some ((eL eD) x117))) fun x120 => (lP (some [x118, x119, x120]))))) fun x122 => (lP (extM x121 x122)))) fun x110 => (lP (some x110))) (lP ((some ()).bind fun _ => some x63)))) fun s107 => (bP (bP (lP (some s107)) fun x152 => (bP (bP (lP (((((some (Str.ofString "low"))).bind fun x129 => ((((((some x54)).bind fun x124 => some x124.2)).bind fun x126 => ((((some (1 : Int))).bind fun x125 => some (some x125))).bind fun x127 => ((some none)).bind fun x128 => some (cutT x126 x127 x128))).bind fun x130 => some (x129, x130))).bind fun x131 => some ((eT2 eS (eV eI)) x131))) fun x147 => (bP (lP (((((some (Str.ofString "low"))).bind fun x134 => ((((((some x54)).bind fun x132 => some x132.2)).bind fun x133 => some x133)).bind fun x135 => some (x134, x135))).bind fun x136 => some ((eT2 eS (eL eI)) x136))) fun x148 => (bP (lP (((((some (Str.ofString "on"))).bind fun x142 => ((((((some x13.2.2)).bind fun x137 => asV x137)).bind fun x139 => ((((some (1 : Int))).bind fun x138 => some (some x138))).bind fun x140 => ((some none)).bind fun x141 => some (cutT x139 x140 x141))).bind fun x143 => some (x142, x143))).bind fun x144 => some ((eT2 eS (eV eD)) x144))) fun x149 => (bP (lP (((((some (Str.ofString "on"))).bind fun x145 => some [x145])).bind fun x146 => some ((eV eS) x146))) fun x150 => (bP t_law_odd fun x151 => (lP (some [x147, x148, x149, x150, x151]))))))) fun x153 => (lP (extM x152 x153)))) fun x123 => (lP (((((((some x123)).bind fun x178 => ((((((((some (Str.ofString "low"))).bind fun x163 => ((((((((((some (10 : Int))).bind fun x155 => ((some (9 : Int))).bind fun x156 => pow_ x155 x156)).bind fun x157 => ((some (1 : Int))).bind fun x158 => some (x157 + x158))).bind fun x159 => some [x159])).bind fun x161 => ((((some x10)).bind fun x160 => some x160.1)).bind fun x162 => mulV x161 x162)).bind fun x164 => some (x163, x164))).bind fun x165 => some ((eT2 eS (eV eI)) x165))).bind fun x176 => ((((((some (Str.ofString "low"))).bind fun x173 => ((((((((((some (10 : Int))).bind fun x166 => ((some (9 : Int))).bind fun x167 => pow_ x166 x167)).bind fun x168 => some (-x168))).bind fun x169 => some [x169])).bind fun x171 => ((((some x10)).bind fun x170 => some x170.1)).bind fun x172 => mulV x171 x172)).bind fun x174 => some (x173, x174))).bind fun x175 => some ((eT2 eS (eV eI)) x175))).bind fun x177 => some [x176, x177])).bind fun x179 => extM x178 x179)).bind fun x181 => loopR (fun a180 (s154 : Unit) => (((((((some a180)).bind fun x183 => reprD x183)).bind fun x184 => ((some false)).bind fun x185 => some (x184, x185))).bind fun x182 => (((((((some x10)).bind fun x195 => ((some ([] : (List Int)))).bind fun x196 => ((some a180)).bind fun x197 => t_law_is_walk_form 12 x195 x196 x197)).bind fun x198 => cond x198 (((((((some x10)).bind fun x200 => ((some x11)).bind fun x201 => ((some ([] : (List Int)))).bind fun x202 => ((some a180)).bind fun x203 => t_law_walk_path 12 x200 x201 x202 x203)).bind fun x204 => ((some ([] : (List (List Int))))).bind fun x205 => some (decide (x204 = x205)))).bind fun x199 => some x199) ((some ()).bind fun _ => some x182.2))).bind fun s194 => (((((((((((some x10)).bind fun x213 => ((some x11)).bind fun x214 => ((some a180)).bind fun x215 => t_is_walk x213 x214 x215)).bind fun x216 => repr_ (faB.py x216))).bind fun x218 => ((((some s194)).bind fun x217 => repr_ (faB.py x217))).bind fun x219 => some (!decide (x218 = x219)))).bind fun x220 => cond x220 (some true) (((((some a180)).bind fun x207 => reprD x207)).bind fun x208 => ((some x182.1)).bind fun x209 => some (!decide (x208 = x209))))).bind fun x206 => cond x206 (((some false)).bind fun x221 => some (Out.rt x221)) ((((some ()).bind fun _ => some ())).bind fun x222 => some (Out.nx x222)))))) x181 ())).bind fun o224 => o224.fin (fun s223 => (((((((((some x10)).bind fun x228 => ((some x11)).bind fun x229 => some (x228, x229))).bind fun x230 => repr_ ((faT2 (faT4 faI (faV (faT2 faI faI)) faI faI) (faV faI)).py x230))).bind fun x231 => ((some x13.1)).bind fun x232 => some (!decide (x231 = x232)))).bind fun x225 => cond x225 (((some false)).bind fun x233 => some (Out.rt x233)) ((((some ()).bind fun _ => some ())).bind fun x234 => some (Out.nx x234)))) fun b => some (Out.rt b)))))))))))))))))) x9 ())) fun o239 => (o239.by (fun s238 => (lP (some true))) fun b => lP (some b)))
end K74
set_option Elab.async false
set_option linter.all false
set_option maxRecDepth 100000
set_option maxHeartbeats 4000000
namespace K74
open PySem PySem.Spec PyProof.Rows L2 MS TM K14
local macro_rules | `(tactic| walk_at "st") => `(tactic| first
  | with_reducible refine wp_b ?_ | with_reducible refine wp_l ?_ | with_reducible refine wo_b ?_ | with_reducible refine wo_some ?_)
inductive Bg (M : Mi) : List Int → List Int → Int → Prop
  | nil : Bg M [] [] M.2.2.1
  | snoc {b v0 : List Int} {x : Int} {k : Nat} {w : Int × Int} : Bg M b v0 x → M.2.1[k]? = some w → goes x (v0 ++ [x]) w = true → Bg M (b ++ [(k : Int)]) (v0 ++ [x]) (far x w)
theorem by_nx {σ β γ : Type} {f : σ → γ} {g : β → γ} {s : σ} : Out.by f g (.nx s) = f s := rfl
def onA (M : Mi) (v0 : List Int) (x : Int) : List (Int × Int × Int) := if x = M.2.2.2 then [] else (enumI M.2.1).filter fun a => goes x (v0 ++ [x]) a.2
end K74
set_option Elab.async false
set_option linter.all false
set_option maxRecDepth 100000
set_option maxHeartbeats 4000000
namespace K74
open PySem PySem.Spec PyProof.Rows L2 MS TM K14
local macro_rules | `(tactic| walk_at "st") => `(tactic| first
  | with_reducible refine wp_b ?_ | with_reducible refine wp_l ?_ | with_reducible refine wo_b ?_ | with_reducible refine wo_some ?_)
end K74
set_option Elab.async false
set_option linter.all false
set_option maxRecDepth 100000
set_option maxHeartbeats 4000000
namespace K74
open PySem PySem.Spec PyProof.Rows L2 MS TM K14
local macro_rules | `(tactic| walk_at "st") => `(tactic| first
  | with_reducible refine wp_b ?_ | with_reducible refine wp_l ?_ | with_reducible refine wo_b ?_ | with_reducible refine wo_some ?_)
def isS : D → Str → Bool
  | .str s, x => decide (s = x)
  | _, _ => false
end K74
set_option Elab.async false
set_option linter.all false
set_option maxRecDepth 100000
set_option maxHeartbeats 4000000
namespace K74
open PySem PySem.Spec PyProof.Rows L2 MS TM K14
local macro_rules | `(tactic| walk_at "st") => `(tactic| first
  | with_reducible refine wp_b ?_ | with_reducible refine wp_l ?_ | with_reducible refine wo_b ?_ | with_reducible refine wo_some ?_)
def wt (W : List Int) (k : Int) : Int := W.getD k.toNat 0
def sumW (W b : List Int) : Int := (b.map (wt W)).sum
def asInt : D → Int
  | .int i => i
  | _ => 0
def hI (hs : List D) (y : Int) : Int := asInt (hs.getD y.toNat .non)
def absI (i : Int) : Int := if i < 0 then -i else i
def over (W v0 : List Int) (hs : List D) (a : Int × Int × Int) : Bool := !decide (a.2.1 ∈ v0) && (!decide (a.2.2 ∈ v0) && decide (0 < wt W a.1 + absI (hI hs a.2.1 - hI hs a.2.2)))
def lowB (M : Mi) (W b v0 : List Int) (x : Int) (hs : List D) : Bool := ((enumI M.2.1).find? (over W v0 hs)).isNone && decide (sumW W b ≤ absI (hI hs x - hI hs M.2.2.2))
end K74
set_option Elab.async false
set_option linter.all false
set_option maxRecDepth 100000
set_option maxHeartbeats 4000000
namespace K74
open PySem PySem.Spec PyProof.Rows L2 MS TM K14
local macro_rules | `(tactic| walk_at "st") => `(tactic| first
  | with_reducible refine wp_b ?_ | with_reducible refine wp_l ?_ | with_reducible refine wo_b ?_ | with_reducible refine wo_some ?_)
def itemsD : D → List D
  | .tup ds => ds
  | _ => []
def wr (M : Mi) (W : List Int) : Nat → List Int → List Int → Int → D → Option (List Int)
  | 0, _, _, _, _ => none
  | n + 1, b, v0, x, d => match d with
    | .tup [_] => cond (decide (x = M.2.2.2) && decide (sumW W b ≤ 0)) none (some b)
    | .tup [a, c] => cond (isS a (Str.ofString "low")) (cond (lowB M W b v0 x (itemsD c)) none (some b)) (cond (decide (x = M.2.2.2)) (some b) (((onA M v0 x).zip (itemsD c)).findSome? fun p => wr M W n (b ++ [p.1.1]) (v0 ++ [x]) (far x p.1.2) p.2))
    | _ => none
end K74
set_option Elab.async false
set_option linter.all false
set_option maxRecDepth 100000
set_option maxHeartbeats 4000000
namespace K74
open PySem PySem.Spec PyProof.Rows L2 MS TM K14
local macro_rules | `(tactic| walk_at "st") => `(tactic| first
  | with_reducible refine wp_b ?_ | with_reducible refine wp_l ?_ | with_reducible refine wo_b ?_ | with_reducible refine wo_some ?_)
def fw (M : Mi) : Nat → List Int → Int → D
  | 0, _, _ => .non
  | n + 1, v0, x => if x = M.2.2.2 then .tup [.str (Str.ofString "out")] else .tup [.str (Str.ofString "on"), .tup ((onA M v0 x).map fun a => fw M n (v0 ++ [x]) (far x a.2))]
end K74
set_option Elab.async false
set_option linter.all false
set_option maxRecDepth 100000
set_option maxHeartbeats 4000000
namespace K74
open PySem PySem.Spec PyProof.Rows L2 MS TM K14
local macro_rules | `(tactic| walk_at "st") => `(tactic| first
  | with_reducible refine wp_b ?_ | with_reducible refine wp_l ?_ | with_reducible refine wo_b ?_ | with_reducible refine wo_some ?_)
end K74
set_option Elab.async false
set_option linter.all false
set_option maxRecDepth 100000
set_option maxHeartbeats 4000000
namespace K74
open PySem PySem.Spec PyProof.Rows L2 MS TM K14
local macro_rules | `(tactic| walk_at "st") => `(tactic| first
  | with_reducible refine wp_b ?_ | with_reducible refine wp_l ?_ | with_reducible refine wo_b ?_ | with_reducible refine wo_some ?_)
inductive Reach (ws : List (Int × Int)) : Int → Int → Prop
  | refl (x : Int) : Reach ws x x
  | step {x y : Int} {w : Int × Int} : w ∈ ws → (x = w.1 ∨ x = w.2) → Reach ws (far x w) y → Reach ws x y
inductive Pth (ws : List (Int × Int)) : Int → List Int → Int → Prop
  | nil (x : Int) : Pth ws x [] x
  | cons {x y : Int} {l : List Int} {w : Int × Int} : w ∈ ws → (x = w.1 ∨ x = w.2) → Pth ws (far x w) l y → Pth ws x (far x w :: l) y
end K74
set_option Elab.async false
set_option linter.all false
set_option maxRecDepth 100000
set_option maxHeartbeats 4000000
namespace K74
open PySem PySem.Spec PyProof.Rows L2 MS TM K14
local macro_rules | `(tactic| walk_at "st") => `(tactic| first
  | with_reducible refine wp_b ?_ | with_reducible refine wp_l ?_ | with_reducible refine wo_b ?_ | with_reducible refine wo_some ?_)
structure Gr (n : Nat) (s : List (Int × Int) × Int) : Prop where
  lo : 2 ≤ s.2
  hi : s.2 ≤ 8
  len : s.1.length ≤ n
  one : 1 ≤ s.1.length
  ok : ∀ w ∈ s.1, WOk s.2 w
  rc : ∀ x, 0 ≤ x → x < s.2 → Reach s.1 0 x
end K74
set_option Elab.async false
set_option linter.all false
set_option maxRecDepth 100000
set_option maxHeartbeats 4000000
namespace K74
open PySem PySem.Spec PyProof.Rows L2 MS TM K14
local macro_rules | `(tactic| walk_at "st") => `(tactic| first
  | with_reducible refine wp_b ?_ | with_reducible refine wp_l ?_ | with_reducible refine wo_b ?_ | with_reducible refine wo_some ?_)
def full (M : Mi) : D := fw M 12 [] M.2.2.1
end K74
set_option Elab.async false
set_option linter.all false
set_option maxRecDepth 100000
set_option maxHeartbeats 4000000
namespace TM
open PySem PySem.Spec PyProof.Rows L2 MS K74
local macro_rules | `(tactic| walk_at "st") => `(tactic| first
  | with_reducible refine wp_b ?_ | with_reducible refine wp_l ?_ | with_reducible refine wo_b ?_ | with_reducible refine wo_some ?_)
mutual
def lnD : D → Nat
  | .tup ds => max ds.length (lnA ds)
  | .lst ds => max ds.length (lnA ds)
  | _ => 0
def lnA : List D → Nat
  | [] => 0
  | d :: ds => max (lnD d) (lnA ds)
end
end TM
set_option Elab.async false
set_option linter.all false
set_option maxRecDepth 100000
set_option maxHeartbeats 4000000
namespace K16
open PySem PySem.Spec PyProof.Rows L2 MS TM
abbrev W2 : Type := Int × Int
def dictOf : Int → List (Option W2) → J2
  | _, [] => []
  | k, none :: r => dictOf (k + 1) r
  | k, some w :: r => (k, w) :: dictOf (k + 1) r
theorem dictOf_key : ∀ {l : List (Option W2)} {k : Int} {p : Int × W2}, p ∈ dictOf k l → k ≤ p.1 ∧ p.1 < k + l.length
  | [], _, _, h => nomatch h
  | none :: r, k, p, h => by
    have := dictOf_key (l := r) h
    rw [List.length_cons]
    omega
  | some w :: r, k, p, h => by
    rcases List.mem_cons.mp h with rfl | h
    · rw [List.length_cons]
      show k ≤ k ∧ k < _
      omega
    · have := dictOf_key (l := r) h
      rw [List.length_cons]
      omega
theorem dictOf_lookup : ∀ {l : List (Option W2)} {k i : Int}, (dictOf k l).lookup i = if k ≤ i then (l[(i - k).toNat]?).join else none
  | [], k, i => by
    show none = _
    split <;> simp
  | none :: r, k, i => by
    show (dictOf (k + 1) r).lookup i = _
    rw [dictOf_lookup]
    by_cases h : k + 1 ≤ i
    · rw [if_pos h, if_pos (by omega)]
      have : (i - k).toNat = (i - (k + 1)).toNat + 1 := by omega
      rw [this, List.getElem?_cons_succ]
    · rw [if_neg h]
      by_cases h2 : k ≤ i
      · rw [if_pos h2]
        have : (i - k).toNat = 0 := by omega
        rw [this]
        rfl
      · rw [if_neg h2]
  | some w :: r, k, i => by
    show List.lookup i ((k, w) :: dictOf (k + 1) r) = _
    rw [List.lookup_cons]
    by_cases e : i = k
    · subst e
      rw [beq_self_eq_true, if_pos (Int.le_refl _)]
      have : (i - i).toNat = 0 := by omega
      rw [this]
      rfl
    · rw [show (i == k) = false from beq_eq_false_iff_ne.mpr e]
      show (dictOf (k + 1) r).lookup i = _
      rw [dictOf_lookup]
      by_cases h : k + 1 ≤ i
      · rw [if_pos h, if_pos (by omega)]
        have : (i - k).toNat = (i - (k + 1)).toNat + 1 := by omega
        rw [this, List.getElem?_cons_succ]
      · rw [if_neg h, if_neg (by omega)]
theorem dictOf_append : ∀ {l : List (Option W2)} {k : Int} {w : W2}, dictOf k (l ++ [some w]) = dictOf k l ++ [(k + l.length, w)]
  | [], k, w => by
    show [(k, w)] = [] ++ [(k + ((0 : Nat) : Int), w)]
    simp
  | none :: r, k, w => by
    show dictOf (k + 1) (r ++ [some w]) = dictOf (k + 1) r ++ _
    rw [dictOf_append, List.length_cons]
    congr 3
    omega
  | some v :: r, k, w => by
    show (k, v) :: dictOf (k + 1) (r ++ [some w]) = (k, v) :: (dictOf (k + 1) r ++ _)
    rw [dictOf_append, List.length_cons]
    congr 4
    omega
theorem dictOf_put {l : List (Option W2)} {w : W2} : putJ (dictOf 0 l) l.length w = dictOf 0 (l ++ [some w]) := by
  unfold putJ
  rw [if_neg, dictOf_append, Int.zero_add]
  intro h
  rw [List.contains_iff_mem] at h
  obtain ⟨p, hp, e⟩ := List.mem_map.mp h
  have := dictOf_key hp
  omega
theorem dictOf_drop : ∀ {l : List (Option W2)} {k g : Int}, (dictOf k l).filter (fun p => decide (p.1 ≠ g)) = dictOf k (if k ≤ g then l.set (g - k).toNat none else l)
  | [], k, g => by split <;> rfl
  | o :: r, k, g => by
    have ih := dictOf_drop (l := r) (k := k + 1) (g := g)
    by_cases e : g = k
    · subst e
      rw [if_pos (Int.le_refl _), show (g - g).toNat = 0 from by omega, List.set_cons_zero]
      rw [if_neg (by omega)] at ih
      cases o with
      | none => exact ih
      | some w =>
        show ((g, w) :: dictOf (g + 1) r).filter _ = dictOf (g + 1) r
        rw [List.filter_cons, if_neg (by simp)]
        exact ih
    · by_cases h : k ≤ g
      · rw [if_pos h, show (g - k).toNat = (g - (k + 1)).toNat + 1 from by omega, List.set_cons_succ]
        rw [if_pos (by omega)] at ih
        cases o with
        | none => exact ih
        | some w =>
          show ((k, w) :: dictOf (k + 1) r).filter _ = (k, w) :: dictOf (k + 1) _
          rw [List.filter_cons, if_pos (by simp; omega), ih]
      · rw [if_neg h]
        rw [if_neg (by omega)] at ih
        cases o with
        | none => exact ih
        | some w =>
          show ((k, w) :: dictOf (k + 1) r).filter _ = (k, w) :: dictOf (k + 1) r
          rw [List.filter_cons, if_pos (by simp; omega), ih]
end K16
set_option Elab.async false
set_option linter.all false
set_option maxRecDepth 100000
set_option maxHeartbeats 4000000
namespace K16
open PySem PySem.Spec PyProof.Rows L2 MS TM
theorem compGo_map {α β γ : Type} {c : β → Option Bool} {f : β → Option γ} {g : α → β} : ∀ l : List α, compGo c f (l.map g) = compGo (fun a => c (g a)) (fun a => f (g a)) l
  | [] => rfl
  | a :: l => by
    rw [List.map_cons]
    unfold compGo
    rw [compGo_map l]
theorem compM_map {α β γ : Type} {c : β → Option Bool} {f : β → Option γ} {g : α → β} {l : List α} : compM c f (l.map g) = compM (fun a => c (g a)) (fun a => f (g a)) l := by
  unfold compM
  rw [List.length_map, compGo_map]
theorem enumI_mapD {l : List (Option W2)} : enumI (l.map (eO eW2)) = (enumI l).map fun p => (p.1, eO eW2 p.2) := by
  unfold enumI
  refine List.ext_getElem? fun i => ?_
  rw [List.getElem?_mapIdx, List.getElem?_map, List.getElem?_map, List.getElem?_mapIdx]
  cases l[i]? <;> rfl
theorem enumI_len {α : Type} {l : List α} : (enumI l).length = l.length := List.length_mapIdx
theorem without_eq {l : List (Option W2)} {gs : List Int} (hz : l.length ≤ 16777216) : t_without_joints (l.map (eO eW2)) gs = some (((enumI l).map fun p => if p.1 ∈ gs then none else p.2).map (eO eW2)) := by
  show compM _ _ (enumI (l.map (eO eW2))) = _
  rw [enumI_mapD, compM_map, compM_all (fun p : Int × Option W2 => eO eW2 (if p.1 ∈ gs then none else p.2)) (by rw [enumI_len]; exact hz)]
  · rw [List.map_map]; rfl
  · intro p _
    show cond (decide (p.1 ∈ gs)) (some D.non) (some (eO eW2 p.2)) = _
    by_cases h : p.1 ∈ gs
    · rw [decide_eq_true h, if_pos h]; rfl
    · rw [decide_eq_false h, if_neg h]; rfl
def other (x : Int) (w : W2) : Int := if w.1 = x then w.2 else w.1
def atEnd (x : Int) : Option W2 → Bool
  | none => false
  | some w => decide (x ∈ [w.1, w.2])
theorem far_ends_eq {l : List (Option W2)} {x : Int} (hz : l.length ≤ 16777216) : t_far_ends (l.map (eO eW2)) x = some ((l.filter (atEnd x)).map fun o => match o with | some w => other x w | none => 0) := by
  show compM _ _ (l.map (eO eW2)) = _
  rw [compM_map]
  refine compM_eq (atEnd x) _ hz (fun o _ => ?_) fun o _ ho => ?_
  · cases o with
    | none => rfl
    | some w => rfl
  · cases o with
    | none => cases ho
    | some w =>
      show cond (decide (w.1 = x)) (some w.2) (some w.1) = some (other x w)
      unfold other
      by_cases h : w.1 = x
      · rw [decide_eq_true h, if_pos h]; rfl
      · rw [decide_eq_false h, if_neg h]; rfl
end K16
set_option Elab.async false
set_option linter.all false
set_option maxRecDepth 100000
set_option maxHeartbeats 4000000
namespace K16
open PySem PySem.Spec PyProof.Rows L2 MS TM
inductive Deed where
  | be (i j : Int) | bh (x : Int) | hu (x : Int) (s : List Int)
def eDeed : Deed → D
  | .be i j => .tup [.str (Str.ofString "beside"), .int i, .int j]
  | .bh x => .tup [.str (Str.ofString "behind"), .int x]
  | .hu x s => .tup [.str (Str.ofString "hung"), .int x, .tup (s.map D.int)]
def touches (s : List Int) : Option W2 → Bool
  | none => false
  | some w => decide (w.1 ∈ s) || decide (w.2 ∈ s)
theorem touching_eq {l : List (Option W2)} {s : List Int} (hz : l.length ≤ 16777216) : t_joints_touching (l.map (eO eW2)) s = some (((enumI l).filter fun p => touches s p.2).map (·.1)) := by
  show compM _ _ (enumI (l.map (eO eW2))) = _
  rw [enumI_mapD, compM_map]
  refine compM_eq (fun p : Int × Option W2 => touches s p.2) (·.1) (by rw [enumI_len]; exact hz) (fun p _ => ?_) fun p _ _ => rfl
  obtain ⟨k, o⟩ := p
  cases o with
  | none => rfl
  | some w =>
    show cond (decide (w.1 ∈ s)) (some true) (some (decide (w.2 ∈ s))) = some (decide (w.1 ∈ s) || decide (w.2 ∈ s))
    cases decide (w.1 ∈ s) <;> rfl
theorem within_eq {w : W2} {s : List Int} : t_is_within (eW2 w) s = some (decide (w.1 ∈ s) && decide (w.2 ∈ s)) := by
  show cond (decide (w.1 ∈ s)) (some (decide (w.2 ∈ s))) (some false) = _
  cases decide (w.1 ∈ s) <;> rfl
theorem intsVo : ∀ {s : List Int}, asVo asI (.tup (s.map D.int)) = some s := fun {s} => by
  show mapO asI (s.map D.int) = some s
  induction s with
  | nil => rfl
  | cons a s ih =>
    show ((asI (.int a)).bind fun y => (mapO asI (s.map D.int)).bind fun ys => some (y :: ys)) = _
    rw [ih]
    rfl
def fars (l : List (Option W2)) (x : Int) : List Int := (l.filter (atEnd x)).map fun o => match o with | some w => other x w | none => 0
theorem can_bh {l : List (Option W2)} {x : Int} (hz : l.length ≤ 16777216) : t_can_be_done (l.map (eO eW2)) (eDeed (.bh x)) = match fars l x with
    | [a, b] => some (!decide (a = b))
    | _ => some false := by
  have hf : t_far_ends (l.map (eO eW2)) x = some (fars l x) := far_ends_eq hz
  show ((t_far_ends (l.map (eO eW2)) x).bind _) = _
  rw [hf]
  generalize fars l x = r
  match r with
  | [] => rfl
  | [_] => rfl
  | [a, b] => rfl
  | a :: b :: c :: r =>
    show cond (decide (((a :: b :: c :: r).length : Int) = 2)) (some (!decide (a = b)) : Option Bool) (some false) = some false
    rw [decide_eq_false (by simp only [List.length_cons]; omega)]
    rfl
theorem removed_bh {l : List (Option W2)} {x : Int} (hz : l.length ≤ 16777216) : t_removed_by (l.map (eO eW2)) (eDeed (.bh x)) = some (((enumI l).filter fun p => touches [x] p.2).map (·.1)) := by
  show t_joints_touching (l.map (eO eW2)) [x] = _
  exact touching_eq hz
theorem removed_hu {l : List (Option W2)} {x : Int} {s : List Int} (hz : l.length ≤ 16777216) : t_removed_by (l.map (eO eW2)) (eDeed (.hu x s)) = some (((enumI l).filter fun p => touches s p.2).map (·.1)) := by
  show ((asVo asI (.tup (s.map D.int))).bind fun x39 => t_joints_touching (l.map (eO eW2)) x39) = _
  rw [intsVo]
  exact touching_eq hz
end K16
set_option Elab.async false
set_option linter.all false
set_option maxRecDepth 100000
set_option maxHeartbeats 4000000
namespace K16
open PySem PySem.Spec PyProof.Rows L2 MS TM
def strike (l : List (Option W2)) (gs : List Int) : List (Option W2) := (enumI l).map fun p => if p.1 ∈ gs then none else p.2
theorem strike_len {l : List (Option W2)} {gs : List Int} : (strike l gs).length = l.length := by
  unfold strike
  rw [List.length_map, enumI_len]
def gone (l : List (Option W2)) (s : List Int) : List Int := ((enumI l).filter fun p => touches s p.2).map (·.1)
theorem after_bh {l : List (Option W2)} {x a b : Int} (hz : l.length ≤ 1000) (hf : fars l x = [a, b]) : t_after_reduction (l.map (eO eW2)) (eDeed (.bh x)) = some ((strike l (gone l [x]) ++ [some (a, b)]).map (eO eW2)) := by
  have h1 := removed_bh (l := l) (x := x) (by omega)
  have h2 := without_eq (l := l) (gs := gone l [x]) (by omega)
  have h3 : t_far_ends (l.map (eO eW2)) x = some [a, b] := (far_ends_eq (by omega)).trans (congrArg some hf)
  show (((t_removed_by (l.map (eO eW2)) (eDeed (.bh x))).bind fun x5 => t_without_joints (l.map (eO eW2)) x5).bind fun x1 => ((((t_far_ends (l.map (eO eW2)) x).bind fun x33 => some x33).bind fun x34 => some ((eV eI) x34)).bind fun x35 => some [x35]).bind fun x37 => extM x1 x37) = _
  rw [h1]
  show ((t_without_joints (l.map (eO eW2)) (gone l [x])).bind _) = _
  rw [h2, h3]
  show extM ((strike l (gone l [x])).map (eO eW2)) [eO eW2 (some (a, b))] = _
  rw [extM_eq (by rw [List.length_map, strike_len]; show _ + 1 ≤ _; omega), List.map_append]
  rfl
theorem after_hu {l : List (Option W2)} {x : Int} {s : List Int} (hz : l.length ≤ 1000) : t_after_reduction (l.map (eO eW2)) (eDeed (.hu x s)) = some ((strike l (gone l s)).map (eO eW2)) := by
  have h1 := removed_hu (l := l) (x := x) (s := s) (by omega)
  have h2 := without_eq (l := l) (gs := gone l s) (by omega)
  show (((t_removed_by (l.map (eO eW2)) (eDeed (.hu x s))).bind fun x5 => t_without_joints (l.map (eO eW2)) x5).bind fun x1 => some x1) = _
  rw [h1]
  show ((t_without_joints (l.map (eO eW2)) (gone l s)).bind _) = _
  rw [h2]
  rfl
theorem after_be {l : List (Option W2)} {i : Nat} {j : Int} {w : W2} (hz : l.length ≤ 1000) (hi : l[i]? = some (some w)) : t_after_reduction (l.map (eO eW2)) (eDeed (.be i j)) = some ((strike l [(i : Int), j] ++ [some w]).map (eO eW2)) := by
  have h2 := without_eq (l := l) (gs := [(i : Int), j]) (by omega)
  have h3 : atT (l.map (eO eW2)) (i : Int) = some (eO eW2 (some w)) := by
    rw [atT_nat (by rw [List.getElem?_map, hi]; rfl)]
  show ((t_without_joints (l.map (eO eW2)) [(i : Int), j]).bind fun x1 => ((atT (l.map (eO eW2)) (i : Int)).bind fun x18 => some [x18]).bind fun x20 => extM x1 x20) = _
  rw [h2, h3]
  show extM ((strike l [(i : Int), j]).map (eO eW2)) [eO eW2 (some w)] = _
  rw [extM_eq (by rw [List.length_map, strike_len]; show _ + 1 ≤ _; omega), List.map_append]
  rfl
end K16
set_option Elab.async false
set_option linter.all false
set_option maxRecDepth 100000
set_option maxHeartbeats 4000000
namespace K16
open PySem PySem.Spec PyProof.Rows L2 MS TM
theorem at_joint {l : List (Option W2)} {k : Nat} {o : Option W2} (h : l[k]? = some o) : atT (l.map (eO eW2)) (k : Int) = some (eO eW2 o) := atT_nat (by rw [List.getElem?_map, h]; rfl)
theorem has_eq {l : List (Option W2)} {k : Nat} : t_has_joint (l.map (eO eW2)) (k : Int) = some (l[k]?.join.isSome) := by
  show cond (decide ((k : Int) < ((l.map (eO eW2)).length : Int))) ((atT (l.map (eO eW2)) (k : Int)).bind fun x3 => some (!x3.isNon)) (some false) = _
  rw [List.length_map]
  cases h : l[k]? with
  | none =>
    have := List.getElem?_eq_none_iff.mp h
    rw [decide_eq_false (by omega)]
    rfl
  | some o =>
    have := (List.getElem?_eq_some_iff.mp h).1
    rw [decide_eq_true (by omega), at_joint h]
    cases o <;> rfl
theorem can_be {l : List (Option W2)} {i j : Nat} : t_can_be_done (l.map (eO eW2)) (eDeed (.be i j)) = some (match l[i]?.join, l[j]?.join with
    | some v, some w => decide (v ∈ [w, (w.2, w.1)])
    | _, _ => false) := by
  show ((t_has_joint (l.map (eO eW2)) (i : Int)).bind fun x37 => cond x37 ((t_has_joint (l.map (eO eW2)) (j : Int)).bind fun x33 => cond x33 (((atT (l.map (eO eW2)) (i : Int)).bind fun x12 => (asT2o asI asI) x12).bind fun x27 => (((((atT (l.map (eO eW2)) (j : Int)).bind fun x16 => asV x16).bind fun x17 => atT x17 0).bind fun x19 => asI x19).bind fun x28 => ((((atT (l.map (eO eW2)) (j : Int)).bind fun x23 => asV x23).bind fun x24 => atT x24 1).bind fun x26 => asI x26).bind fun x29 => t_is_between x27 x28 x29)) (some false)) (some false)) = _
  rw [has_eq, has_eq]
  cases hi : l[i]? with
  | none => rfl
  | some o =>
    cases o with
    | none => rfl
    | some v =>
      cases hj : l[j]? with
      | none => rfl
      | some q =>
        cases q with
        | none => rfl
        | some w =>
          rw [at_joint hi, at_joint hj]
          rfl
end K16
set_option Elab.async false
set_option linter.all false
set_option maxRecDepth 100000
set_option maxHeartbeats 4000000
namespace K16
open PySem PySem.Spec PyProof.Rows L2 MS TM
def inside (t : List Int) : Option W2 → Bool
  | none => false
  | some w => decide (w.1 ∈ t) && decide (w.2 ∈ t)
theorem gone_mem {l : List (Option W2)} {s : List Int} {k : Int} (h : k ∈ gone l s) : ∃ (n : Nat) (w : W2), k = n ∧ l[n]? = some (some w) := by
  obtain ⟨p, hp, rfl⟩ := List.mem_map.mp h
  obtain ⟨h1, h2⟩ := List.mem_filter.mp hp
  obtain ⟨n, hn, e⟩ := List.mem_mapIdx.mp h1
  obtain ⟨a, o⟩ := p
  cases e
  cases ho : l[n] with
  | none => rw [ho] at h2; cases h2
  | some w => exact ⟨n, w, rfl, by rw [List.getElem?_eq_getElem hn, ho]⟩
theorem can_hu {l : List (Option W2)} {x : Int} {s : List Int} (hz : l.length ≤ 1000) (hs : s.length ≤ 1000) : t_can_be_done (l.map (eO eW2)) (eDeed (.hu x s)) = some (decide (0 < ((gone l s).length : Int)) && (gone l s).all fun k => inside (s ++ [x]) (l[k.toNat]?.join)) := by
  have h1 : t_joints_touching (l.map (eO eW2)) s = some (gone l s) := touching_eq (by omega)
  have hg : (gone l s).length ≤ 1000 := by
    unfold gone
    rw [List.length_map]
    have := List.length_filter_le (fun p : Int × Option W2 => touches s p.2) (enumI l)
    rw [enumI_len] at this
    omega
  have h2 : compM (fun _ => some true) (fun a67 => (atT (l.map (eO eW2)) a67).bind fun x75 => (((asVo asI) (.tup (s.map D.int))).bind fun x73 => extM x73 [x]).bind fun x76 => t_is_within x75 x76) (gone l s) = some ((gone l s).map fun k => inside (s ++ [x]) (l[k.toNat]?.join)) := by
    refine compM_all _ (by omega) fun k hk => ?_
    obtain ⟨n, w, rfl, hw⟩ := gone_mem hk
    rw [at_joint hw, intsVo]
    show ((extM s [x]).bind fun x76 => t_is_within (eW2 w) x76) = _
    rw [extM_eq (by show _ + 1 ≤ _; omega)]
    show t_is_within (eW2 w) (s ++ [x]) = _
    rw [within_eq, Int.toNat_natCast, hw]
    rfl
  show (((asVo asI) (.tup (s.map D.int))).bind fun x66 => t_joints_touching (l.map (eO eW2)) x66).bind (fun x63 => cond (decide (0 < (x63.length : Int))) ((compM (fun _ => some true) (fun a67 => (atT (l.map (eO eW2)) a67).bind fun x75 => (((asVo asI) (.tup (s.map D.int))).bind fun x73 => extM x73 [x]).bind fun x76 => t_is_within x75 x76) x63).bind fun x78 => some (x78.all id)) (some false)) = _
  rw [intsVo]
  show ((t_joints_touching (l.map (eO eW2)) s).bind _) = _
  rw [h1]
  show cond (decide (0 < ((gone l s).length : Int))) ((compM (fun _ => some true) (fun a67 => (atT (l.map (eO eW2)) a67).bind fun x75 => ((some s).bind fun x73 => extM x73 [x]).bind fun x76 => t_is_within x75 x76) (gone l s)).bind fun x78 => some (x78.all id)) (some false) = _
  rw [intsVo] at h2
  rw [h2]
  cases decide (0 < ((gone l s).length : Int)) with
  | false => rfl
  | true =>
    show some (((gone l s).map fun k => inside (s ++ [x]) (l[k.toNat]?.join)).all id) = _
    rw [List.all_map]
    rfl
end K16
set_option Elab.async false
set_option linter.all false
set_option maxRecDepth 100000
set_option maxHeartbeats 4000000
namespace K16
open PySem PySem.Spec PyProof.Rows L2 MS TM
def there (l : List (Option W2)) : List W2 := l.filterMap id
theorem there_filter : ∀ l : List (Option W2), l.filter (fun o => o.isSome) = (there l).map some
  | [] => rfl
  | none :: l => there_filter l
  | some w :: l => by
    show some w :: l.filter (fun o => o.isSome) = some w :: (there l).map some
    rw [there_filter l]
theorem dictOf_there : ∀ {l : List (Option W2)} {k : Int}, (dictOf k l).map (·.2) = there l
  | [], _ => rfl
  | none :: l, k => dictOf_there (l := l) (k := k + 1)
  | some w :: l, k => congrArg (w :: ·) (dictOf_there (l := l) (k := k + 1))
theorem reduced_eq {m : Mn} {l : List (Option W2)} (hz : l.length ≤ 1000) : t_is_reduced m (l.map (eO eW2)) = some (match there l with
    | [w] => decide (w ∈ [(m.2.2.1, m.2.2.2), (m.2.2.2, m.2.2.1)])
    | _ => false) := by
  have h1 : compM (fun a2 : D => some (!a2.isNon)) (fun a2 => some a2) (l.map (eO eW2)) = some ((there l).map eW2) := by
    rw [compM_map, compM_eq (fun o : Option W2 => o.isSome) (eO eW2) (by omega) (fun o _ => by cases o <;> rfl) fun o _ _ => rfl, there_filter, List.map_map]
    rfl
  show ((compM (fun a2 : D => some (!a2.isNon)) (fun a2 => some a2) (l.map (eO eW2))).bind _) = _
  rw [h1]
  generalize there l = r
  match r with
  | [] => rfl
  | [w] => rfl
  | a :: b :: r =>
    show cond (decide ((((a :: b :: r).map eW2).length : Int) = 1)) (t_is_between a m.2.2.1 m.2.2.2) (some false) = some false
    rw [decide_eq_false (by rw [List.length_map]; simp only [List.length_cons]; omega)]
    rfl
end K16
set_option Elab.async false
set_option linter.all false
set_option maxRecDepth 100000
set_option maxHeartbeats 4000000
namespace K16
open PySem PySem.Spec PyProof.Rows L2 MS TM
def DeedOk : Deed → Prop
  | .be i j => 0 ≤ i ∧ 0 ≤ j
  | .bh _ => True
  | .hu _ s => s.length ≤ 1000
def canD (l : List (Option W2)) : Deed → Bool
  | .be i j => match l[i.toNat]?.join, l[j.toNat]?.join with
    | some v, some w => decide (v ∈ [w, (w.2, w.1)])
    | _, _ => false
  | .bh x => match fars l x with
    | [a, b] => !decide (a = b)
    | _ => false
  | .hu x s => decide (0 < ((gone l s).length : Int)) && (gone l s).all fun k => inside (s ++ [x]) (l[k.toNat]?.join)
def stepD (l : List (Option W2)) : Deed → List (Option W2)
  | .be i j => match l[i.toNat]?.join with
    | some w => strike l [i, j] ++ [some w]
    | none => l
  | .bh x => match fars l x with
    | [a, b] => strike l (gone l [x]) ++ [some (a, b)]
    | _ => l
  | .hu _ s => strike l (gone l s)
theorem can_eq {l : List (Option W2)} {d : Deed} (hz : l.length ≤ 1000) (hd : DeedOk d) : t_can_be_done (l.map (eO eW2)) (eDeed d) = some (canD l d) := by
  cases d with
  | be i j =>
    have h := can_be (l := l) (i := i.toNat) (j := j.toNat)
    rw [Int.toNat_of_nonneg hd.1, Int.toNat_of_nonneg hd.2] at h
    exact h
  | bh x =>
    rw [can_bh (by omega)]
    show _ = some (match fars l x with | [a, b] => !decide (a = b) | _ => false)
    generalize fars l x = r
    match r with
    | [] => rfl
    | [_] => rfl
    | [_, _] => rfl
    | _ :: _ :: _ :: _ => rfl
  | hu x s => exact can_hu hz hd
theorem step_eq {l : List (Option W2)} {d : Deed} (hz : l.length ≤ 1000) (hd : DeedOk d) (hc : canD l d = true) : t_after_reduction (l.map (eO eW2)) (eDeed d) = some ((stepD l d).map (eO eW2)) := by
  cases d with
  | be i j =>
    unfold canD at hc
    unfold stepD
    dsimp only at hc ⊢
    cases hi : l[i.toNat]? with
    | none => rw [hi] at hc; cases hc
    | some o =>
      cases o with
      | none => rw [hi] at hc; cases hc
      | some w =>
        have h := after_be (l := l) (i := i.toNat) (j := j) hz hi
        rw [Int.toNat_of_nonneg hd.1] at h
        exact h
  | bh x =>
    unfold canD at hc
    unfold stepD
    dsimp only at hc ⊢
    cases hf : fars l x with
    | nil => rw [hf] at hc; cases hc
    | cons a r =>
      cases r with
      | nil => rw [hf] at hc; cases hc
      | cons b r =>
        cases r with
        | nil => exact after_bh hz hf
        | cons c r => rw [hf] at hc; cases hc
  | hu x s => exact after_hu hz
theorem step_len {l : List (Option W2)} {d : Deed} : (stepD l d).length ≤ l.length + 1 := by
  cases d with
  | be i j =>
    unfold stepD
    dsimp only
    split
    · rw [List.length_append, strike_len]; exact Nat.le_refl _
    · omega
  | bh x =>
    unfold stepD
    dsimp only
    split
    · rw [List.length_append, strike_len]; exact Nat.le_refl _
    · omega
  | hu x s =>
    show (strike l (gone l s)).length ≤ _
    rw [strike_len]
    omega
end K16
set_option Elab.async false
set_option linter.all false
set_option maxRecDepth 100000
set_option maxHeartbeats 4000000
namespace K16
open PySem PySem.Spec PyProof.Rows L2 MS TM
def runP : Nat → List (Option W2) → List Deed → Nat ⊕ List (Option W2)
  | _, l, [] => .inr l
  | k, l, d :: ds => if canD l d = true then runP (k + 1) (stepD l d) ds else .inl k
def outP : Nat ⊕ List (Option W2) → Out (List D) (Option Int)
  | .inl k => .rt (some (k : Int))
  | .inr l => .nx (l.map (eO eW2))
abbrev bodyP : Int × D → List D → Option (Out (List D) (Option Int)) := fun a7 s5 => ((t_can_be_done s5 a7.2).bind fun x12 => some (!x12)).bind fun x9 => cond x9 (some (Out.rt (some a7.1))) (((t_after_reduction s5 a7.2).bind fun x14 => some x14).bind fun x17 => some (Out.nx x17))
theorem run_eq : ∀ (ds : List Deed) (k : Nat) (l : List (Option W2)), l.length + ds.length ≤ 1000 → (∀ d ∈ ds, DeedOk d) →
    loopR bodyP (ds.mapIdx fun i d => (((k + i : Nat) : Int), eDeed d)) (l.map (eO eW2)) = some (outP (runP k l ds))
  | [], k, l, _, _ => rfl
  | d :: ds, k, l, hz, hok => by
    have hl : l.length + (ds.length + 1) ≤ 1000 := hz
    have hd := hok d (List.mem_cons_self ..)
    rw [List.mapIdx_cons]
    have hb : bodyP (((k + 0 : Nat) : Int), eDeed d) (l.map (eO eW2)) = some (if canD l d = true then Out.nx ((stepD l d).map (eO eW2)) else Out.rt (some (k : Int))) := by
      show ((t_can_be_done (l.map (eO eW2)) (eDeed d)).bind fun x12 => some (!x12)).bind _ = _
      rw [can_eq (by omega) hd]
      cases hc : canD l d with
      | false => rfl
      | true =>
        show (((t_after_reduction (l.map (eO eW2)) (eDeed d)).bind fun x14 => some x14).bind fun x17 => some (Out.nx x17)) = _
        rw [step_eq (by omega) hd hc]
        rfl
    unfold loopR
    rw [hb]
    unfold runP
    cases hc : canD l d with
    | false => rfl
    | true =>
      have hs := step_len (l := l) (d := d)
      have ih := run_eq ds (k + 1) (stepD l d) (by omega) fun e he => hok e (List.mem_cons_of_mem _ he)
      have e : (ds.mapIdx fun i d => (((k + (i + 1) : Nat) : Int), eDeed d)) = ds.mapIdx fun i d => (((k + 1 + i : Nat) : Int), eDeed d) := by
        congr 1
        funext i d
        rw [show k + (i + 1) = k + 1 + i from by omega]
      show loopR bodyP (ds.mapIdx fun i d => (((k + (i + 1) : Nat) : Int), eDeed d)) ((stepD l d).map (eO eW2)) = _
      rw [e, ih]
      rfl
end K16
set_option Elab.async false
set_option linter.all false
set_option maxRecDepth 100000
set_option maxHeartbeats 4000000
namespace K16
open PySem PySem.Spec PyProof.Rows L2 MS TM
def doneP (m : Mn) (l : List (Option W2)) : Bool := match there l with
  | [w] => decide (w ∈ [(m.2.2.1, m.2.2.2), (m.2.2.2, m.2.2.1)])
  | _ => false
def endP (m : Mn) (n : Nat) : Nat ⊕ List (Option W2) → Option Int
  | .inl k => some (k : Int)
  | .inr l => if doneP m l = true then none else some (n : Int)
theorem runP_len : ∀ {ds : List Deed} {k : Nat} {l l' : List (Option W2)}, runP k l ds = .inr l' → l'.length ≤ l.length + ds.length
  | [], _, _, _, e => by cases e; exact Nat.le_refl _
  | d :: ds, k, l, l', e => by
    unfold runP at e
    split at e
    · have := runP_len e
      have hs := step_len (l := l) (d := d)
      rw [List.length_cons]
      omega
    · cases e
theorem can_reduce_eq {m : Mn} {ds : List Deed} (hz : m.2.1.length + ds.length ≤ 1000) (hok : ∀ d ∈ ds, DeedOk d) : t_can_reduce m (ds.map eDeed) = some (endP m ds.length (runP 0 (m.2.1.map some) ds)) := by
  have hr := run_eq ds 0 (m.2.1.map some) (by rw [List.length_map]; exact hz) hok
  have he : enumI (ds.map eDeed) = ds.mapIdx fun i d => (((0 + i : Nat) : Int), eDeed d) := by
    unfold enumI
    refine List.ext_getElem? fun i => ?_
    rw [List.getElem?_mapIdx, List.getElem?_mapIdx, List.getElem?_map, Nat.zero_add]
    cases ds[i]? <;> rfl
  have hm : m.2.1.map (eT2 eI eI) = (m.2.1.map some).map (eO eW2) := by rw [List.map_map]; rfl
  show ((loopR bodyP (enumI (ds.map eDeed)) (m.2.1.map (eT2 eI eI))).bind fun o25 => o25.fin (fun s19 => (t_is_reduced m s19).bind fun x24 => cond x24 (some (none : Option Int)) (some (some ((ds.map eDeed).length : Int)))) some) = _
  rw [he, hm, hr]
  cases hx : runP 0 (m.2.1.map some) ds with
  | inl k => rfl
  | inr l =>
    have hl := runP_len hx
    rw [List.length_map] at hl
    show ((t_is_reduced m (l.map (eO eW2))).bind fun x24 => cond x24 (some (none : Option Int)) (some (some ((ds.map eDeed).length : Int)))) = some (if doneP m l = true then none else some (ds.length : Int))
    rw [reduced_eq (by omega), List.length_map]
    show cond (doneP m l) (some none) (some (some (ds.length : Int))) = _
    cases doneP m l <;> rfl
end K16
set_option Elab.async false
set_option linter.all false
set_option maxRecDepth 100000
set_option maxHeartbeats 4000000
namespace K16
open PySem PySem.Spec PyProof.Rows L2 MS TM
def ek : Int → List (Option W2) → List (Int × Option W2)
  | _, [] => []
  | k, o :: r => (k, o) :: ek (k + 1) r
theorem ek_map : ∀ {l : List (Option W2)} {k : Nat}, (l.mapIdx fun i o => (((k + i : Nat) : Int), o)) = ek (k : Int) l
  | [], _ => rfl
  | r :: rs, k => by
    rw [List.mapIdx_cons]
    show (((k + 0 : Nat) : Int), r) :: (rs.mapIdx fun i d => (((k + (i + 1) : Nat) : Int), d)) = ((k : Int), r) :: ek ((k : Int) + 1) rs
    have h := ek_map (l := rs) (k := k + 1)
    have e : ((k + 1 : Nat) : Int) = (k : Int) + 1 := by omega
    rw [e] at h
    rw [← h]
    congr 1
    apply List.ext_getElem?
    intro j
    rw [List.getElem?_mapIdx, List.getElem?_mapIdx]
    have : k + (j + 1) = k + 1 + j := by omega
    rw [this]
theorem ek_enum {l : List (Option W2)} : enumI l = ek 0 l := by
  have h := ek_map (l := l) (k := 0)
  rw [show ((0 : Nat) : Int) = 0 from rfl] at h
  rw [← h]
  unfold enumI
  congr 1
  funext i d
  rw [Nat.zero_add]
theorem gone_ek {s : List Int} : ∀ {l : List (Option W2)} {k : Int}, ((ek k l).filter fun p => touches s p.2).map (·.1) = ((dictOf k l).filter fun p => touches s (some p.2)).map (·.1)
  | [], _ => rfl
  | none :: r, k => gone_ek (l := r) (k := k + 1)
  | some w :: r, k => by
    show (((k, some w) :: ek (k + 1) r).filter _).map _ = (((k, w) :: dictOf (k + 1) r).filter _).map _
    rw [List.filter_cons, List.filter_cons]
    by_cases h : touches s (some w) = true
    · rw [if_pos h, if_pos h, List.map_cons, List.map_cons, gone_ek]
    · rw [if_neg h, if_neg h, gone_ek]
theorem gone_dict {l : List (Option W2)} {s : List Int} : gone l s = ((dictOf 0 l).filter fun p => touches s (some p.2)).map (·.1) := by
  unfold gone
  rw [ek_enum, gone_ek]
theorem fars_dictK {x : Int} : ∀ {l : List (Option W2)} {k : Int}, fars l x = ((dictOf k l).filter fun p => atEnd x (some p.2)).map fun p => other x p.2
  | [], _ => rfl
  | none :: r, k => fars_dictK (l := r) (k := k + 1)
  | some w :: r, k => by
    show ((some w :: r).filter (atEnd x)).map _ = (((k, w) :: dictOf (k + 1) r).filter _).map _
    rw [List.filter_cons, List.filter_cons]
    by_cases h : atEnd x (some w) = true
    · rw [if_pos h, if_pos h, List.map_cons, List.map_cons, ← fars_dictK]
      rfl
    · rw [if_neg h, if_neg h, ← fars_dictK]
      rfl
theorem dictOf_asc : ∀ {l : List (Option W2)} {k : Int}, ((dictOf k l).map (·.1)).Pairwise (· < ·)
  | [], _ => .nil
  | none :: r, k => dictOf_asc (l := r) (k := k + 1)
  | some w :: r, k => by
    show ((k, w) :: dictOf (k + 1) r).map (·.1) |>.Pairwise (· < ·)
    rw [List.map_cons]
    refine List.pairwise_cons.mpr ⟨fun a ha => ?_, dictOf_asc⟩
    obtain ⟨p, hp, rfl⟩ := List.mem_map.mp ha
    have := dictOf_key hp
    show k < p.1
    omega
theorem lookup_of : ∀ {js : J2} {p : Int × W2}, (js.map (·.1)).Pairwise (· < ·) → p ∈ js → js.lookup p.1 = some p.2
  | [], _, _, h => nomatch h
  | q :: js, p, ha, h => by
    rw [List.map_cons] at ha
    obtain ⟨h1, h2⟩ := List.pairwise_cons.mp ha
    obtain ⟨i, w⟩ := q
    rw [List.lookup_cons]
    rcases List.mem_cons.mp h with rfl | h
    · rw [beq_self_eq_true]
    · have : i < p.1 := h1 _ (List.mem_map_of_mem h)
      rw [show (p.1 == i) = false from beq_eq_false_iff_ne.mpr (by omega)]
      exact lookup_of h2 h
theorem lookup_dict {l : List (Option W2)} {k : Int} {p : Int × W2} (h : p ∈ dictOf k l) : (dictOf k l).lookup p.1 = some p.2 := lookup_of dictOf_asc h
theorem sortI_keys {l : List (Option W2)} {k : Int} : sortI ((dictOf k l).map (·.1)) = (dictOf k l).map (·.1) := sorted_one (sortI_perm _) (sortI_sorted _) (dictOf_asc.imp fun h => Int.le_of_lt h)
theorem dictOf_len : ∀ {l : List (Option W2)} {k : Int}, (dictOf k l).length ≤ l.length
  | [], _ => Nat.le_refl _
  | none :: r, k => Nat.le_succ_of_le (dictOf_len (l := r) (k := k + 1))
  | some w :: r, k => Nat.succ_le_succ (dictOf_len (l := r) (k := k + 1))
theorem lookup_nat {l : List (Option W2)} {i : Int} (h : 0 ≤ i) : (dictOf 0 l).lookup i = l[i.toNat]?.join := by
  rw [dictOf_lookup, if_pos h, Int.sub_zero]
def remD (l : List (Option W2)) : Deed → List Int
  | .be i j => [i, j]
  | .bh x => gone l [x]
  | .hu _ s => gone l s
def addD (l : List (Option W2)) : Deed → Option W2
  | .be i _ => l[i.toNat]?.join
  | .bh x => match fars l x with
    | [a, b] => some (a, b)
    | _ => none
  | .hu _ _ => none
def Dok (inn : List Int) : Deed → Prop
  | .be i j => 0 ≤ i ∧ i < j
  | .bh x => x ∈ inn
  | .hu x s => s ≠ [] ∧ (∀ y ∈ s, y ∈ inn) ∧ x ∉ s ∧ s.length ≤ 63
theorem sort2 {a b : Int} : sortI [a, b] = if a ≤ b then [a, b] else [b, a] := by
  show insI a (insI b []) = _
  show insI a [b] = _
  unfold insI
  split <;> rfl
theorem sort2_eq {v w : W2} : (sortI [v.1, v.2] = sortI [w.1, w.2]) ↔ v ∈ [w, (w.2, w.1)] := by
  obtain ⟨a, b⟩ := v
  obtain ⟨c, d⟩ := w
  rw [sort2, sort2]
  simp only [List.mem_cons, List.not_mem_nil, or_false, Prod.mk.injEq]
  split <;> split <;> simp only [List.cons.injEq, and_true] <;> omega
end K16
set_option Elab.async false
set_option linter.all false
set_option maxRecDepth 100000
set_option maxHeartbeats 4000000
namespace K16
open PySem PySem.Spec PyProof.Rows L2 MS TM
abbrev Made (l : List (Option W2)) (d : Deed) : List D := cond (canD l d) [.lst ((remD l d).map D.int), eO eW2 (addD l d)] []
theorem lt64 {l : List (Option W2)} (hl : l.length ≤ 63) : Nat.blt (dictOf 0 l).length 64 = true := by
  have := dictOf_len (l := l) (k := 0)
  exact Nat.ble_eq.mpr (by omega)
theorem made_be {m : Mn} {inn : List Int} {l : List (Option W2)} {i j : Int} (hin : t_law_inner m = some inn) (hi : 0 ≤ i) (hij : i < j) : t_law_made m (dictOf 0 l) (eDeed (.be i j)) = some (Made l (.be i j)) := by
  unfold t_law_made
  rw [show ((some m).bind fun x2 => t_law_inner x2) = some inn from hin]
  show (cond (decide (j ≤ i)) (some true) (cond (!((dictOf 0 l).lookup i).isSome) (some true) (some (!((dictOf 0 l).lookup j).isSome)))).bind (fun x22 => cond x22 (some []) ((((((dictOf 0 l).lookup i).bind fun x33 => some [x33.1, x33.2]).bind fun x34 => cond (Nat.blt x34.length 64) (some (sortI x34)) none).bind (fun x38 => ((((dictOf 0 l).lookup j).bind fun x36 => some [x36.1, x36.2]).bind fun x37 => cond (Nat.blt x37.length 64) (some (sortI x37)) none).bind fun x39 => some (!decide (x38 = x39)))).bind fun x31 => cond x31 (some []) ((((dictOf 0 l).lookup i).bind fun x48 => some (eW2 x48)).bind fun x50 => some [D.lst [.int i, .int j], x50]))) = some (Made l (.be i j))
  rw [lookup_nat hi, lookup_nat (show 0 ≤ j by omega)]
  rw [decide_eq_false (by omega)]
  unfold Made canD remD addD
  dsimp only
  generalize l[i.toNat]?.join = o1
  generalize l[j.toNat]?.join = o2
  cases o1 with
  | none => rfl
  | some v =>
    cases o2 with
    | none => rfl
    | some w =>
      show cond (!decide (sortI [v.1, v.2] = sortI [w.1, w.2])) (some []) (some [D.lst [.int i, .int j], eW2 v]) = some (cond (decide (v ∈ [w, (w.2, w.1)])) [D.lst [.int i, .int j], eW2 v] [])
      by_cases h : v ∈ [w, (w.2, w.1)]
      · rw [decide_eq_true h, decide_eq_true (sort2_eq.mpr h)]
        rfl
      · rw [decide_eq_false h, decide_eq_false fun z => h (sort2_eq.mp z)]
        rfl
theorem keys_gone {l : List (Option W2)} {s : List Int} {c : Int → Option Bool} (hl : l.length ≤ 63) (hc : ∀ p ∈ dictOf 0 l, c p.1 = some (touches s (some p.2))) : compM c (fun a => some a) ((dictOf 0 l).map (·.1)) = some (gone l s) := by
  have := dictOf_len (l := l) (k := 0)
  rw [compM_map, compM_eq (fun p : Int × W2 => touches s (some p.2)) (·.1) (by omega) hc fun _ _ _ => rfl, gone_dict]
theorem gone_len63 {l : List (Option W2)} {s : List Int} (hl : l.length ≤ 63) : (gone l s).length ≤ 63 := by
  rw [gone_dict, List.length_map]
  have h1 := dictOf_len (l := l) (k := 0)
  exact Nat.le_trans (List.length_filter_le ..) (by omega)
theorem atEnd_touches {x : Int} {w : W2} : atEnd x (some w) = touches [x] (some w) := by
  show decide (x ∈ [w.1, w.2]) = (decide (w.1 ∈ [x]) || decide (w.2 ∈ [x]))
  rw [← Bool.decide_or]
  congr 1
  simp only [List.mem_cons, List.not_mem_nil, or_false, eq_iff_iff]
  constructor <;> rintro (h | h) <;> simp [h]
theorem fars_gone {l : List (Option W2)} {x : Int} : fars l x = (gone l [x]).map fun k => match (dictOf 0 l).lookup k with | some w => other x w | none => 0 := by
  rw [gone_dict, fars_dictK (k := 0), List.map_map]
  have : ((dictOf 0 l).filter fun p => atEnd x (some p.2)) = (dictOf 0 l).filter fun p => touches [x] (some p.2) := List.filter_congr fun p _ => atEnd_touches
  rw [this]
  refine List.map_congr_left fun p hp => ?_
  show _ = match (dictOf 0 l).lookup p.1 with | some w => other x w | none => 0
  rw [lookup_dict (List.mem_filter.mp hp).1]
theorem made_bh {m : Mn} {inn : List Int} {l : List (Option W2)} {x : Int} (hin : t_law_inner m = some inn) (hl : l.length ≤ 63) (hx : x ∈ inn) : t_law_made m (dictOf 0 l) (eDeed (.bh x)) = some (Made l (.bh x)) := by
  have h1 : compM (fun a58 => (((dictOf 0 l).lookup a58).bind fun x62 => some [x62.1, x62.2]).bind fun x60 => some (decide (x ∈ x60))) (fun a => some a) ((dictOf 0 l).map (·.1)) = some (gone l [x]) := keys_gone hl fun p hp => by
    rw [lookup_dict hp, ← atEnd_touches]
    rfl
  have h2 : compM (fun _ => some true) (fun a66 => ((((dictOf 0 l).lookup a66).bind fun x68 => some x68.1).bind fun x70 => some (decide (x70 = x))).bind fun x76 => cond x76 (((dictOf 0 l).lookup a66).bind fun x73 => some x73.2) (((dictOf 0 l).lookup a66).bind fun x75 => some x75.1)) (gone l [x]) = some (fars l x) := by
    have := gone_len63 (l := l) (s := [x]) hl
    rw [compM_all (fun k => match (dictOf 0 l).lookup k with | some w => other x w | none => 0) (by omega), ← fars_gone]
    intro k hk
    rw [gone_dict] at hk
    obtain ⟨p, hp, rfl⟩ := List.mem_map.mp hk
    rw [lookup_dict (List.mem_filter.mp hp).1]
    show cond (decide (p.2.1 = x)) (some p.2.2) (some p.2.1) = some (if p.2.1 = x then p.2.2 else p.2.1)
    by_cases h : p.2.1 = x
    · rw [decide_eq_true h, if_pos h]; rfl
    · rw [decide_eq_false h, if_neg h]; rfl
  unfold t_law_made
  rw [show ((some m).bind fun x2 => t_law_inner x2) = some inn from hin]
  show (((cond (Nat.blt (dictOf 0 l).length 64) (some (sortI ((dictOf 0 l).map (·.1)))) none).bind fun x64 => compM (fun a58 => (((dictOf 0 l).lookup a58).bind fun x62 => some [x62.1, x62.2]).bind fun x60 => some (decide (x ∈ x60))) (fun a => some a) x64).bind fun x57 => (compM (fun _ => some true) (fun a66 => ((((dictOf 0 l).lookup a66).bind fun x68 => some x68.1).bind fun x70 => some (decide (x70 = x))).bind fun x76 => cond x76 (((dictOf 0 l).lookup a66).bind fun x73 => some x73.2) (((dictOf 0 l).lookup a66).bind fun x75 => some x75.1)) x57).bind fun x65 => (cond (!decide (x ∈ inn)) (some true) (cond (!decide ((x57.length : Int) = 2)) (some true) ((atT x65 0).bind fun x83 => (atT x65 1).bind fun x84 => some (decide (x83 = x84))))).bind fun x78 => cond x78 (some []) (some [D.lst (x57.map D.int), D.tup (x65.map D.int)])) = _
  rw [lt64 hl]
  show (compM _ _ (sortI ((dictOf 0 l).map (·.1)))).bind _ = _
  rw [sortI_keys, h1]
  show (compM (fun _ => some true) _ (gone l [x])).bind _ = _
  rw [h2]
  show (cond (!decide (x ∈ inn)) (some true) (cond (!decide (((gone l [x]).length : Int) = 2)) (some true) ((atT (fars l x) 0).bind fun x83 => (atT (fars l x) 1).bind fun x84 => some (decide (x83 = x84))))).bind (fun x78 => cond x78 (some []) (some [D.lst ((gone l [x]).map D.int), D.tup ((fars l x).map D.int)])) = _
  rw [decide_eq_true hx]
  have hlen : (gone l [x]).length = (fars l x).length := by rw [fars_gone, List.length_map]
  rw [hlen]
  unfold Made canD remD addD
  dsimp only
  generalize fars l x = r
  match r with
  | [] => rfl
  | [_] => rfl
  | [a, b] =>
    show cond (decide (a = b)) (some []) (some [D.lst ((gone l [x]).map D.int), D.tup [.int a, .int b]]) = some (cond (!decide (a = b)) [D.lst ((gone l [x]).map D.int), D.tup [.int a, .int b]] [])
    by_cases h : a = b
    · rw [decide_eq_true h]; rfl
    · rw [decide_eq_false h]; rfl
  | a :: b :: c :: r =>
    rw [show decide (((a :: b :: c :: r).length : Int) = 2) = false from decide_eq_false (by simp only [List.length_cons]; omega)]
    rfl
theorem flatMap_cg {α β : Type} {f g : α → List β} : ∀ {l : List α}, (∀ a ∈ l, f a = g a) → l.flatMap f = l.flatMap g
  | [], _ => rfl
  | a :: l, h => by
    rw [List.flatMap_cons, List.flatMap_cons, h a (List.mem_cons_self ..), flatMap_cg fun b hb => h b (List.mem_cons_of_mem _ hb)]
theorem made_hu {m : Mn} {inn : List Int} {l : List (Option W2)} {x : Int} {s : List Int} (hin : t_law_inner m = some inn) (hl : l.length ≤ 63) (hx : x ∉ s) (hs : ∀ y ∈ s, y ∈ inn) (hsl : s.length ≤ 63) : t_law_made m (dictOf 0 l) (eDeed (.hu x s)) = some (Made l (.hu x s)) := by
  have hgl := gone_len63 (l := l) (s := s) hl
  have h1 : compM (fun a106 => ((((dictOf 0 l).lookup a106).bind fun x114 => some x114.1).bind fun x111 => some (decide (x111 ∈ s))).bind fun x115 => cond x115 (some true) ((((dictOf 0 l).lookup a106).bind fun x110 => some x110.2).bind fun x107 => some (decide (x107 ∈ s)))) (fun a => some a) ((dictOf 0 l).map (·.1)) = some (gone l s) := keys_gone hl fun p hp => by
    rw [lookup_dict hp]
    show cond (decide (p.2.1 ∈ s)) (some true) (some (decide (p.2.2 ∈ s))) = some (decide (p.2.1 ∈ s) || decide (p.2.2 ∈ s))
    cases decide (p.2.1 ∈ s) <;> rfl
  have hf : (gone l s).flatMap (fun k => match (dictOf 0 l).lookup k with | some w => [w.1, w.2] | none => []) = ((dictOf 0 l).filter fun p => touches s (some p.2)).flatMap fun p => [p.2.1, p.2.2] := by
    rw [gone_dict, List.flatMap_map]
    exact flatMap_cg fun p hp => by rw [lookup_dict (List.mem_filter.mp hp).1]
  have h2 : loopN (fun a118 (s117 : List Int) => (((((dictOf 0 l).lookup a118).bind fun x123 => some [x123.1, x123.2]).bind fun x124 => some x124).bind fun x121 => extM s117 x121).bind fun x120 => some x120) (gone l s) [] = some (((dictOf 0 l).filter fun p => touches s (some p.2)).flatMap fun p => [p.2.1, p.2.2]) := by
    rw [← hf]
    have hfl : ∀ k : Int, (match (dictOf 0 l).lookup k with | some w => [w.1, w.2] | none => []).length ≤ 2 := fun k => by split <;> simp
    refine (loopN_flat (fun k => match (dictOf 0 l).lookup k with | some w => [w.1, w.2] | none => []) fun k hk s' hs' => ?_).trans (by rw [List.nil_append])
    have hk' := hk
    rw [gone_dict] at hk
    obtain ⟨p, hp, rfl⟩ := List.mem_map.mp hk
    have hlk := lookup_dict (List.mem_filter.mp hp).1
    rw [hlk] at hs' ⊢
    have hb : ((gone l s).flatMap fun k => match (dictOf 0 l).lookup k with | some w => [w.1, w.2] | none => []).length ≤ 63 * 2 := by
      have := flat_count (f := fun k => match (dictOf 0 l).lookup k with | some w => [w.1, w.2] | none => []) (p := fun _ => true) (B := 2) (l := gone l s) fun a _ => hfl a
      have h2 := List.countP_le_length (p := fun _ : Int => true) (l := gone l s)
      have h3 := Nat.mul_le_mul_right 2 (Nat.le_trans h2 hgl)
      omega
    show (extM s' [p.2.1, p.2.2]).bind _ = _
    rw [extM_eq (by have : s'.length + 2 ≤ 0 + _ := hs'; show s'.length + 2 ≤ _; omega)]
    rfl
  have h3 : ∀ es : List Int, es.length ≤ 126 → compM (fun a127 => (some (!decide (a127 ∈ s))).bind fun x133 => cond x133 (some (!decide (a127 = x))) (some false)) (fun a => some a) es = some (es.filter fun e => !decide (e ∈ s) && !decide (e = x)) := fun es he => by
    refine (compM_eq (fun e => !decide (e ∈ s) && !decide (e = x)) id (by omega) (fun e _ => ?_) fun _ _ _ => rfl).trans (by rw [List.map_id])
    show cond (!decide (e ∈ s)) (some (!decide (e = x))) (some false) = _
    cases decide (e ∈ s) <;> rfl
  have h4 : compM (fun a144 => some (!decide (a144 ∈ inn))) (fun a => some a) s = some [] := by
    refine (compM_eq (fun e => !decide (e ∈ inn)) id (by omega) (fun e _ => rfl) fun _ _ _ => rfl).trans ?_
    rw [List.map_id, List.filter_eq_nil_iff.mpr fun e he => by rw [decide_eq_true (hs e he)]; decide]
  have hv : asVo asI (.tup (s.map D.int)) = some s := intsVo
  unfold t_law_made
  rw [show ((some m).bind fun x2 => t_law_inner x2) = some inn from hin]
  rw [show ((((some (eDeed (.hu x s))).bind fun x99 => asV x99).bind fun x100 => (some (2 : Int)).bind fun x101 => atT x100 x101).bind fun x102 => (asVo asI) x102) = some s from hv]
  show (((cond (Nat.blt (dictOf 0 l).length 64) (some (sortI ((dictOf 0 l).map (·.1)))) none).bind fun x116 => compM (fun a106 => ((((dictOf 0 l).lookup a106).bind fun x114 => some x114.1).bind fun x111 => some (decide (x111 ∈ s))).bind fun x115 => cond x115 (some true) ((((dictOf 0 l).lookup a106).bind fun x110 => some x110.2).bind fun x107 => some (decide (x107 ∈ s)))) (fun a => some a) x116).bind fun x105 => (loopN (fun a118 (s117 : List Int) => (((((dictOf 0 l).lookup a118).bind fun x123 => some [x123.1, x123.2]).bind fun x124 => some x124).bind fun x121 => extM s117 x121).bind fun x120 => some x120) x105 ([] : List Int)).bind fun s125 => (compM (fun a127 => (some (!decide (a127 ∈ s))).bind fun x133 => cond x133 (some (!decide (a127 = x))) (some false)) (fun a => some a) s125).bind fun x126 => (cond (decide (x ∈ s)) (some true) (cond (decide (x105 = ([] : List Int))) (some true) (some (!decide (x126 = ([] : List Int)))))).bind fun x134 => cond x134 (some []) (((compM (fun a144 => some (!decide (a144 ∈ inn))) (fun a => some a) s).bind fun x148 => some (!decide (x148 = ([] : List Int)))).bind fun x143 => cond x143 (some []) (some [D.lst (x105.map D.int), D.non]))) = _
  rw [lt64 hl]
  show (compM _ _ (sortI ((dictOf 0 l).map (·.1)))).bind _ = _
  rw [sortI_keys, h1]
  show (loopN _ (gone l s) []).bind _ = _
  rw [h2]
  show (compM _ _ (((dictOf 0 l).filter fun p => touches s (some p.2)).flatMap fun p => [p.2.1, p.2.2])).bind _ = _
  have hb2 : (((dictOf 0 l).filter fun p => touches s (some p.2)).flatMap fun p => [p.2.1, p.2.2]).length ≤ 126 := by
    have h2 : ((dictOf 0 l).filter fun p => touches s (some p.2)).length = (gone l s).length := by rw [gone_dict, List.length_map]
    have := flat_count (f := fun p : Int × W2 => [p.2.1, p.2.2]) (p := fun _ => true) (B := 2) (l := (dictOf 0 l).filter fun p => touches s (some p.2)) fun a _ => Nat.le_refl _
    have h3 := List.countP_le_length (p := fun _ : Int × W2 => true) (l := (dictOf 0 l).filter fun p => touches s (some p.2))
    have h4 := Nat.mul_le_mul_right 2 (Nat.le_trans h3 (Nat.le_of_eq h2))
    exact Nat.le_trans this (Nat.le_trans h4 (by omega))
  rw [h3 _ hb2]
  generalize he : (((dictOf 0 l).filter fun p => touches s (some p.2)).flatMap fun p => [p.2.1, p.2.2]).filter (fun e => !decide (e ∈ s) && !decide (e = x)) = es
  show (cond (decide (x ∈ s)) (some true) (cond (decide (gone l s = ([] : List Int))) (some true) (some (!decide (es = ([] : List Int)))))).bind (fun x134 => cond x134 (some []) (((compM (fun a144 => some (!decide (a144 ∈ inn))) (fun a => some a) s).bind fun x148 => some (!decide (x148 = ([] : List Int)))).bind fun x143 => cond x143 (some []) (some [D.lst ((gone l s).map D.int), D.non]))) = _
  rw [decide_eq_false hx, h4]
  have hes : decide (es = ([] : List Int)) = (gone l s).all fun k => inside (s ++ [x]) (l[k.toNat]?.join) := by
    rw [Bool.eq_iff_iff, decide_eq_true_iff, ← he, List.filter_eq_nil_iff, List.all_eq_true]
    have hk : ∀ p ∈ dictOf 0 l, l[p.1.toNat]?.join = some p.2 := fun p hp => by
      rw [← lookup_nat (by have := dictOf_key hp; omega), lookup_dict hp]
    constructor
    · intro h k hk'
      rw [gone_dict] at hk'
      obtain ⟨p, hp, rfl⟩ := List.mem_map.mp hk'
      rw [hk p (List.mem_filter.mp hp).1]
      have a1 := h p.2.1 (List.mem_flatMap.mpr ⟨p, hp, by simp⟩)
      have a2 := h p.2.2 (List.mem_flatMap.mpr ⟨p, hp, by simp⟩)
      show (decide (p.2.1 ∈ s ++ [x]) && decide (p.2.2 ∈ s ++ [x])) = true
      simp only [Bool.and_eq_true, Bool.not_eq_true', decide_eq_false_iff_not, not_and, Decidable.not_not, decide_eq_true_eq, List.mem_append, List.mem_singleton] at a1 a2 ⊢
      constructor
      · by_cases z : p.2.1 ∈ s
        · exact .inl z
        · exact .inr (a1 z)
      · by_cases z : p.2.2 ∈ s
        · exact .inl z
        · exact .inr (a2 z)
    · intro h e hm
      obtain ⟨p, hp, hm⟩ := List.mem_flatMap.mp hm
      have a := h p.1 (by rw [gone_dict]; exact List.mem_map_of_mem hp)
      rw [hk p (List.mem_filter.mp hp).1] at a
      have a : (decide (p.2.1 ∈ s ++ [x]) && decide (p.2.2 ∈ s ++ [x])) = true := a
      simp only [Bool.and_eq_true, decide_eq_true_eq, List.mem_append, List.mem_singleton] at a
      simp only [Bool.and_eq_true, Bool.not_eq_true', decide_eq_false_iff_not, not_and, Decidable.not_not]
      intro z
      simp only [List.mem_cons, List.not_mem_nil, or_false] at hm
      rcases hm with rfl | rfl
      · exact a.1.resolve_left z
      · exact a.2.resolve_left z
  rw [hes]
  unfold Made canD remD addD
  dsimp only
  generalize ((gone l s).all fun k => inside (s ++ [x]) (l[k.toNat]?.join)) = b
  generalize gone l s = g
  cases g with
  | nil => rfl
  | cons a g =>
    rw [decide_eq_false (by simp), decide_eq_true (show 0 < ((a :: g).length : Int) by simp only [List.length_cons]; omega)]
    cases b <;> rfl
theorem made_eq {m : Mn} {inn : List Int} {l : List (Option W2)} {d : Deed} (hin : t_law_inner m = some inn) (hl : l.length ≤ 63) (hd : Dok inn d) : t_law_made m (dictOf 0 l) (eDeed d) = some (Made l d) := by
  cases d with
  | be i j => exact made_be hin hd.1 hd.2
  | bh x => exact made_bh hin hl hd
  | hu x s => exact made_hu hin hl hd.2.2.1 hd.2.1 hd.2.2.2
end K16
set_option Elab.async false
set_option linter.all false
set_option maxRecDepth 100000
set_option maxHeartbeats 4000000
namespace K16
open PySem PySem.Spec PyProof.Rows L2 MS TM
theorem strike_get {l : List (Option W2)} {gs : List Int} {i : Nat} : (strike l gs)[i]? = (l[i]?).map fun o => if (i : Int) ∈ gs then none else o := by
  unfold strike enumI
  rw [List.getElem?_map, List.getElem?_mapIdx]
  cases l[i]? <;> rfl
theorem strike_nil {l : List (Option W2)} : strike l [] = l := List.ext_getElem? fun i => by
  rw [strike_get]
  cases l[i]? <;> rfl
theorem strike_cons {l : List (Option W2)} {n : Nat} {gs : List Int} : strike (l.set n none) gs = strike l ((n : Int) :: gs) := List.ext_getElem? fun i => by
  rw [strike_get, strike_get, List.getElem?_set]
  by_cases h : n = i
  · subst h
    rw [if_pos rfl]
    by_cases hl : n < l.length
    · rw [if_pos hl, List.getElem?_eq_getElem hl]
      simp
    · rw [if_neg hl, List.getElem?_eq_none (by omega)]
      rfl
  · rw [if_neg h]
    have : ((i : Int) ∈ (n : Int) :: gs) ↔ (i : Int) ∈ gs := by
      rw [List.mem_cons]
      exact ⟨fun z => z.resolve_left (by omega), .inr⟩
    simp only [this]
theorem pops_eq : ∀ (gs : List Int) (l : List (Option W2)), gs.Nodup → (∀ g ∈ gs, ∃ (n : Nat) (w : W2), g = n ∧ l[n]? = some (some w)) → popsJ (dictOf 0 l) gs = some (dictOf 0 (strike l gs))
  | [], l, _, _ => by rw [strike_nil]; rfl
  | g :: gs, l, hn, he => by
    obtain ⟨h1, h2⟩ := List.nodup_cons.mp hn
    obtain ⟨n, w, rfl, hw⟩ := he g (List.mem_cons_self ..)
    have hlk : (dictOf 0 l).lookup (n : Int) = some w := by
      rw [lookup_nat (by omega), Int.toNat_natCast, hw]
      rfl
    have hd : (dictOf 0 l).filter (fun p => decide (p.1 ≠ (n : Int))) = dictOf 0 (l.set n none) := by
      rw [dictOf_drop, if_pos (by omega), Int.sub_zero, Int.toNat_natCast]
    show ((dictOf 0 l).lookup (n : Int)).bind (fun _ => popsJ ((dictOf 0 l).filter fun p => decide (p.1 ≠ (n : Int))) gs) = _
    rw [hlk, hd]
    show popsJ (dictOf 0 (l.set n none)) gs = _
    rw [pops_eq gs _ h2 fun g hg => ?_, strike_cons]
    obtain ⟨k, v, rfl, hv⟩ := he g (List.mem_cons_of_mem _ hg)
    refine ⟨k, v, rfl, ?_⟩
    rw [List.getElem?_set_ne (fun z => h1 (by rw [z]; exact hg))]
    exact hv
theorem gone_nodup {l : List (Option W2)} {s : List Int} : (gone l s).Nodup := by
  rw [gone_dict]
  have h : (((dictOf 0 l).filter fun p => touches s (some p.2)).map (·.1)).Sublist ((dictOf 0 l).map (·.1)) := List.filter_sublist.map _
  exact (dictOf_asc.sublist h).imp fun h => by omega
theorem rem_ok {inn : List Int} {l : List (Option W2)} {d : Deed} (hd : Dok inn d) (hc : canD l d = true) : (remD l d).Nodup ∧ ∀ g ∈ remD l d, ∃ (n : Nat) (w : W2), g = n ∧ l[n]? = some (some w) := by
  have join {k : Nat} {w : W2} (h : l[k]?.join = some w) : l[k]? = some (some w) := by
    cases e : l[k]? with
    | none => rw [e] at h; cases h
    | some o => rw [e] at h; exact congrArg some h
  cases d with
  | be i j =>
    obtain ⟨h0, h1⟩ := hd
    refine ⟨?_, ?_⟩
    · show [i, j].Nodup
      simp
      omega
    · unfold canD at hc
      dsimp only at hc
      intro g hg
      split at hc
      · rename_i v w hv hw
        have hg : g = i ∨ g = j := by simpa [remD] using hg
        rcases hg with rfl | rfl
        · exact ⟨g.toNat, v, by omega, join hv⟩
        · exact ⟨g.toNat, w, by omega, join hw⟩
      · cases hc
  | bh x => exact ⟨gone_nodup, fun g hg => gone_mem hg⟩
  | hu x s => exact ⟨gone_nodup, fun g hg => gone_mem hg⟩
theorem stepD_eq {l : List (Option W2)} {d : Deed} (hc : canD l d = true) : stepD l d = match addD l d with
    | some w => strike l (remD l d) ++ [some w]
    | none => strike l (remD l d) := by
  cases d with
  | be i j =>
    unfold canD at hc
    unfold stepD addD remD
    dsimp only at hc ⊢
    cases h : l[i.toNat]?.join with
    | none => rw [h] at hc; cases hc
    | some w => rfl
  | bh x =>
    unfold canD at hc
    unfold stepD addD remD
    dsimp only at hc ⊢
    generalize fars l x = r at hc ⊢
    match r with
    | [] => cases hc
    | [_] => cases hc
    | [a, b] => rfl
    | _ :: _ :: _ :: _ => cases hc
  | hu x s => rfl
theorem ints_ok : ∀ gs : List Int, intsOf (gs.map D.int) = some gs
  | [] => rfl
  | g :: gs => by
    show (intsOf (gs.map D.int)).map (g :: ·) = _
    rw [ints_ok gs]
    rfl
def outJ : Nat ⊕ List (Option W2) → Int ⊕ (J2 × Int)
  | .inl k => .inl (k : Int)
  | .inr l => .inr (dictOf 0 l, (l.length : Int))
theorem due_eq {m : Mn} {inn : List Int} (hin : t_law_inner m = some inn) : ∀ (ds : List Deed) (k : Nat) (l : List (Option W2)), l.length + ds.length ≤ 63 → (∀ d ∈ ds, Dok inn d) →
    dueGo m (k : Int) (ds.map eDeed) (dictOf 0 l) (l.length : Int) = some (outJ (runP k l ds))
  | [], k, l, _, _ => rfl
  | d :: ds, k, l, hz, hok => by
    have hl : l.length + (ds.length + 1) ≤ 63 := hz
    have hd := hok d (List.mem_cons_self ..)
    show ((t_law_made m (dictOf 0 l) (eDeed d)).bind fun made => (asMade made).bind fun o => match o with
      | none => some (.inl (k : Int))
      | some (gs, w) => (popsJ (dictOf 0 l) gs).bind fun js' => match w with
        | none => dueGo m ((k : Int) + 1) (ds.map eDeed) js' (l.length : Int)
        | some w => cond (Nat.blt js'.length 16777216) (dueGo m ((k : Int) + 1) (ds.map eDeed) (putJ js' (l.length : Int) w) ((l.length : Int) + 1)) none) = _
    rw [made_eq hin (by omega) hd]
    unfold runP Made
    cases hc : canD l d with
    | false => rfl
    | true =>
      obtain ⟨r1, r2⟩ := rem_ok hd hc
      have hp := pops_eq _ _ r1 r2
      have hk : ((k : Int) + 1) = ((k + 1 : Nat) : Int) := by omega
      rw [if_pos rfl, cond_true, stepD_eq hc]
      have hs := strike_len (l := l) (gs := remD l d)
      have hle := dictOf_len (l := strike l (remD l d)) (k := 0)
      cases ha : addD l d with
      | none =>
        show ((asMade [.lst ((remD l d).map D.int), .non]).bind _) = _
        have : asMade [.lst ((remD l d).map D.int), .non] = some (some (remD l d, none)) := by
          show (intsOf ((remD l d).map D.int)).map _ = _
          rw [ints_ok]
          rfl
        rw [this]
        show ((popsJ (dictOf 0 l) (remD l d)).bind fun js' => dueGo m ((k : Int) + 1) (ds.map eDeed) js' (l.length : Int)) = _
        rw [hp]
        show dueGo m ((k : Int) + 1) (ds.map eDeed) (dictOf 0 (strike l (remD l d))) (l.length : Int) = _
        rw [← hs, hk]
        exact due_eq hin ds (k + 1) _ (by omega) fun e he => hok e (List.mem_cons_of_mem _ he)
      | some w =>
        show ((asMade [.lst ((remD l d).map D.int), .tup [.int w.1, .int w.2]]).bind _) = _
        have : asMade [.lst ((remD l d).map D.int), .tup [.int w.1, .int w.2]] = some (some (remD l d, some w)) := by
          show (intsOf ((remD l d).map D.int)).map _ = _
          rw [ints_ok]
          rfl
        rw [this]
        show ((popsJ (dictOf 0 l) (remD l d)).bind fun js' => cond (Nat.blt js'.length 16777216) (dueGo m ((k : Int) + 1) (ds.map eDeed) (putJ js' (l.length : Int) w) ((l.length : Int) + 1)) none) = _
        rw [hp]
        show cond (Nat.blt (dictOf 0 (strike l (remD l d))).length 16777216) (dueGo m ((k : Int) + 1) (ds.map eDeed) (putJ (dictOf 0 (strike l (remD l d))) (l.length : Int) w) ((l.length : Int) + 1)) none = _
        rw [show Nat.blt (dictOf 0 (strike l (remD l d))).length 16777216 = true from Nat.ble_eq.mpr (by omega), cond_true, ← hs, dictOf_put, hk]
        have hlen : (((strike l (remD l d)).length : Int) + 1) = ((strike l (remD l d) ++ [some w]).length : Int) := by
          rw [List.length_append]
          rfl
        rw [hlen]
        exact due_eq hin ds (k + 1) _ (by rw [List.length_append]; show (strike l (remD l d)).length + 1 + ds.length ≤ 63; omega) fun e he => hok e (List.mem_cons_of_mem _ he)
theorem left_eq {js : J2} (hz : js.length ≤ 1000) : t_left js = some ((js.map (·.2)).map fun w => sortI [w.1, w.2]) := by
  show compM _ _ (js.map (·.2)) = _
  exact compM_all _ (by rw [List.length_map]; omega) fun w _ => rfl
theorem putAll_enum : ∀ {ws : List W2} {l : List W2}, putAll (dictOf 0 (l.map some)) (ws.mapIdx fun i w => (((l.length + i : Nat) : Int), w)) = dictOf 0 ((l ++ ws).map some)
  | [], l => by rw [List.append_nil]; rfl
  | w :: ws, l => by
    rw [List.mapIdx_cons]
    show putAll (putJ (dictOf 0 (l.map some)) ((l.length : Nat) : Int) w) (ws.mapIdx fun i w => (((l.length + (i + 1) : Nat) : Int), w)) = _
    have h1 : putJ (dictOf 0 (l.map some)) ((l.length : Nat) : Int) w = dictOf 0 ((l ++ [w]).map some) := by
      have := dictOf_put (l := l.map some) (w := w)
      rw [List.length_map] at this
      rw [this, List.map_append]
      rfl
    rw [h1]
    have h2 := putAll_enum (ws := ws) (l := l ++ [w])
    rw [List.append_assoc] at h2
    rw [show l ++ w :: ws = l ++ ([w] ++ ws) from rfl, ← h2]
    congr 2
    funext i w'
    rw [List.length_append]
    show (((l.length + (i + 1) : Nat) : Int), w') = (((l.length + 1 + i : Nat) : Int), w')
    rw [show l.length + (i + 1) = l.length + 1 + i from by omega]
theorem pairs_eq {m : Mn} (hz : m.2.1.length ≤ 1000) : t_pairs m = some (enumI m.2.1) := by
  show compM _ _ (enumI m.2.1) = _
  refine (compM_all (fun p => p) (by rw [enumI_len]; omega) fun p _ => rfl).trans ?_
  rw [List.map_id']
theorem reduced_due_eq {m : Mn} {inn : List Int} {ds : List Deed} (hin : t_law_inner m = some inn) (hz : m.2.1.length + ds.length ≤ 63) (hok : ∀ d ∈ ds, Dok inn d) : t_law_reduced_due m (ds.map eDeed) = some (endP m ds.length (runP 0 (m.2.1.map some) ds)) := by
  have hpa : putAll [] (enumI m.2.1) = dictOf 0 (m.2.1.map some) := by
    have h := putAll_enum (ws := m.2.1) (l := [])
    have e : (m.2.1.mapIdx fun i w => ((((([] : List W2).length + i : Nat)) : Int), w)) = enumI m.2.1 := by
      unfold enumI
      congr 1
      funext i w
      rw [List.length_nil, Nat.zero_add]
    rw [e] at h
    exact h
  unfold t_law_reduced_due
  rw [pairs_eq (by omega)]
  show ((dueGo m 0 (ds.map eDeed) (putAll [] (enumI m.2.1)) (m.2.1.length : Int)).bind _) = _
  have hd := due_eq hin ds 0 (m.2.1.map some) (by rw [List.length_map]; exact hz) hok
  rw [List.length_map] at hd
  rw [hpa, show dueGo m 0 (ds.map eDeed) (dictOf 0 (m.2.1.map some)) (m.2.1.length : Int) = _ from hd]
  cases hx : runP 0 (m.2.1.map some) ds with
  | inl k => rfl
  | inr l =>
    have hl := runP_len hx
    rw [List.length_map] at hl
    have hdl := dictOf_len (l := l) (k := 0)
    show ((t_left (dictOf 0 l)).bind fun ls => some (if ls = [sortI [m.2.2.1, m.2.2.2]] then (none : Option Int) else some ((ds.map eDeed).length : Int))) = some (if doneP m l = true then none else some (ds.length : Int))
    rw [left_eq (by omega), dictOf_there, List.length_map]
    show some (if (there l).map (fun w => sortI [w.1, w.2]) = [sortI [m.2.2.1, m.2.2.2]] then (none : Option Int) else some (ds.length : Int)) = _
    have : ((there l).map (fun w => sortI [w.1, w.2]) = [sortI [m.2.2.1, m.2.2.2]]) ↔ doneP m l = true := by
      unfold doneP
      generalize there l = r
      match r with
      | [] => simp
      | [w] =>
        show [sortI [w.1, w.2]] = [sortI [m.2.2.1, m.2.2.2]] ↔ decide (w ∈ [(m.2.2.1, m.2.2.2), (m.2.2.2, m.2.2.1)]) = true
        rw [decide_eq_true_iff]
        have := sort2_eq (v := w) (w := (m.2.2.1, m.2.2.2))
        rw [← this]
        simp
      | a :: b :: r => simp
    by_cases h : doneP m l = true
    · rw [if_pos h, if_pos (this.mpr h)]
    · rw [if_neg h, if_neg fun z => h (this.mp z)]
end K16
set_option Elab.async false
set_option linter.all false
set_option maxRecDepth 100000
set_option maxHeartbeats 4000000
namespace K70
section
variable {adj : Int → Int → Prop} {A B : Int → Prop}
def Ch (adj : Int → Int → Prop) : List Int → Prop
  | [] => True
  | [_] => True
  | x :: y :: l => adj x y ∧ Ch adj (y :: l)
structure Pt (adj : Int → Int → Prop) (A B : Int → Prop) (l : List Int) (e : Int) : Prop where
  ch : Ch adj (l ++ [e])
  hd : ∀ a, (l ++ [e]).head? = some a → A a
  nd : (l ++ [e]).Nodup
  out : ∀ x ∈ l, ¬ B x
  fin : B e
end
end K70
set_option Elab.async false
set_option linter.all false
set_option maxRecDepth 100000
set_option maxHeartbeats 4000000
namespace K70
open PySem PySem.Spec PyProof.Rows L2 MS TM K14 K74
section
variable {ws : List (Int × Int)} {P : Int → Prop} {Q : Int → Prop}
inductive Rt (P : Int → Prop) (ws : List (Int × Int)) : Int → List Int → List Int → Int → Prop
  | nil (x : Int) : Rt P ws x [] [] x
  | cons {x y k : Int} {w : Int × Int} {l r : List Int} : (k, w) ∈ enumI ws → P k → (x = w.1 ∨ x = w.2) → Rt P ws (far x w) l r y → Rt P ws x (far x w :: l) (k :: r) y
inductive Wk (P Q : Int → Prop) (ws : List (Int × Int)) : Int → Int → Prop
  | refl {x : Int} : Q x → Wk P Q ws x x
  | step {x y k : Int} {w : Int × Int} : Q x → (k, w) ∈ enumI ws → P k → (x = w.1 ∨ x = w.2) → Wk P Q ws (far x w) y → Wk P Q ws x y
def adj (P : Int → Prop) (ws : List (Int × Int)) (x y : Int) : Prop := ∃ k w, (k, w) ∈ enumI ws ∧ P k ∧ (x = w.1 ∨ x = w.2) ∧ y = far x w
end
def Bh (M : Mi) (others : List Int) (wy : Int × Int) (g x : Int) : Prop := ∃ s, (s = wy.1 ∨ s = wy.2) ∧ s ≠ g ∧ Wk (fun k => k ∉ others) (fun v => v ≠ g) M.2.1 s x
end K70
set_option Elab.async false
set_option linter.all false
set_option maxRecDepth 100000
set_option maxHeartbeats 4000000
namespace K70
open PySem PySem.Spec PyProof.Rows L2 MS TM K14 K74
def M_is_rising : MStm :=
  (mSeq (mIfS (mNot (mB (mIsi (mVar 0) "tuple"))) (mRet (mC (.bl false))) mNx)
    (mSeq (mAsg (mC (.int 0)) (mName 2))
    (mSeq (mFor (mItems (mVar 0)) (mName 3) (mSeq (mIfS (mNot (mB (mCall F_is_integer_within (mCons (mVar 3) (mCons (mVar 2) (mCons (mVar 1) mNil)))))) (mRet (mC (.bl false))) mNx)
    (mAsg (mBin fAdd (mVar 3) (mC (.int 1))) (mName 2))))
    (mRet (mC (.bl true))))))
def F_is_rising : DCall := den 2 4 M_is_rising
def M_is_place : MStm :=
  (mRet (mCall F_is_integer_within (mCons (mVar 1) (mCons (mC (.int 0)) (mCons (mBin fSub (mBin fIx (mVar 0) (mC (.int 0))) (mC (.int 1))) mNil)))))
def F_is_place : DCall := den 2 2 M_is_place
def M_inner_places : MStm :=
  (mSeq (mAsg (mVar 0) (mgTup (mgCons (mName 1) (mgCons (mName 2) (mgCons (mName 3) (mgCons (mName 4) mgNil)))) 4))
    (mRet (mCall cTuple (mCons (mFz (mLc (mRange1 (mCons (mVar 1) mNil)) (mName 5) (mB (mBin (fIn true) (mVar 5) (mTup (mCons (mVar 3) (mCons (mVar 4) mNil))))) (mVar 5) [5])) mNil))))
def F_inner_places : DCall := den 1 6 M_inner_places
def M_near_places : MStm :=
  (mRet (mCall cTuple (mCons (mFz (mSortComp (mItems (mCall F_ways_at (mCons (mVar 0) (mCons (mVar 1) mNil)))) (mName 2) mYes (mCall F_far_end (mCons (mVar 0) (mCons (mVar 2) (mCons (mVar 1) mNil)))) [2])) mNil)))
def F_near_places : DCall := den 2 3 M_near_places
def M_reached_from : MStm :=
  (mSeq (mAsg (mCall cList (mCons (mVar 1) mNil)) (mName 2))
    (mSeq (mAsg (mC (.int 0)) (mName 3))
    (mSeq (whileN (mB (mBin fLt (mVar 3) (mCall cLen (mCons (mVar 2) mNil)))) (mSeq (mFor (mItems (mCall F_near_places (mCons (mVar 0) (mCons (mBin fIx (mVar 2) (mVar 3)) mNil)))) (mName 4) (mIfS (mB (mBin (fIn true) (mVar 4) (mVar 2))) (mDrop (mApp (mVar 2) (mCons (mVar 4) mNil))) mNx))
    (mAug 3 (fI fun i j => i + j) (mC (.int 1)))) 1000)
    (mRet (mCall cTuple (mCons (mCall (cFz cSorted) (mCons (mVar 2) mNil)) mNil))))))
def F_reached_from : DCall := den 2 5 M_reached_from
def M_leaving_shares : MStm :=
  (mSeq (mAsg (mBin fMulW (mLst (mCons (mC (.int 0)) mNil)) (mBin fIx (mVar 0) (mC (.int 0)))) (mName 3))
    (mSeq (mFor (mItems (mCall F_ways_at (mCons (mVar 0) (mCons (mVar 2) mNil)))) (mName 4) (mSeq (mAsg (mCall F_far_end (mCons (mVar 0) (mCons (mVar 4) (mCons (mVar 2) mNil)))) (mName 5))
    (mSeq (mAsg (mBin fAdd (mBin fIx (mVar 3) (mVar 2)) (mBin fIx (mVar 1) (mVar 4))) (mgSub (mVar 3) (mVar 2)))
    (mAsg (mBin fSub (mBin fIx (mVar 3) (mVar 5)) (mBin fIx (mVar 1) (mVar 4))) (mgSub (mVar 3) (mVar 5))))))
    (mRet (mFz (mVar 3)))))
def F_leaving_shares : DCall := den 3 6 M_leaving_shares
def M_cleared_row : MStm :=
  (mRet (mFz (mLc (mZipV (mCons (mVar 0) (mCons (mVar 1) mNil))) (mgTup (mgCons (mName 4) (mgCons (mName 5) mgNil)) 2) mYes (mBin fDivW (mBin fSub (mBin fMulW (mBin fIx (mVar 1) (mVar 2)) (mVar 4)) (mBin fMulW (mBin fIx (mVar 0) (mVar 2)) (mVar 5))) (mVar 3)) [4, 5])))
def F_cleared_row : DCall := den 4 6 M_cleared_row
def M_solve_rows : MStm :=
  (mSeq (mAsg (mC (.int 1)) (mName 1))
    (mSeq (mAsg (mCall cLen (mCons (mVar 0) mNil)) (mName 2))
    (mSeq (mFor (mRange1 (mCons (mVar 2) mNil)) (mName 3) (mSeq (mAsg (mBin fIx (mVar 0) (mVar 3)) (mName 4))
    (mSeq (mAsg (mFz (mLc (mEnum (mCons (mVar 0) mNil)) (mgTup (mgCons (mName 6) (mgCons (mName 5) mgNil)) 2) mYes (mIf (mB (mBin fEq (mVar 6) (mVar 3))) (mVar 5) (mCall F_cleared_row (mCons (mVar 5) (mCons (mVar 4) (mCons (mVar 3) (mCons (mVar 1) mNil)))))) [6, 5])) (mName 0))
    (mAsg (mBin fIx (mVar 4) (mVar 3)) (mName 1)))))
    (mRet (mTup (mCons (mVar 1) (mCons (mFz (mLc (mItems (mVar 0)) (mName 5) mYes (mBin fIx (mVar 5) (mNeg (mC (.int 1)))) [5])) mNil)))))))
def F_solve_rows : DCall := den 1 7 M_solve_rows
def M_without_divisor : MStm :=
  (mSeq (mAsg (mC (.int 0)) (mName 1))
    (mSeq (mFor (mItems (mVar 0)) (mName 2) (mAsg (mCall cGcd (mCons (mVar 1) (mCons (mVar 2) mNil))) (mName 1)))
    (mRet (mCall cTuple (mCons (mFz (mLc (mItems (mVar 0)) (mName 2) mYes (mBin fDivW (mVar 2) (mVar 1)) [2])) mNil)))))
def F_without_divisor : DCall := den 1 3 M_without_divisor
def M_levels_for : MStm :=
  (mSeq (mAsg (mVar 0) (mgTup (mgCons (mName 6) (mgCons (mName 7) (mgCons (mName 8) (mgCons (mName 7) mgNil)))) 4))
    (mSeq (mAsg (mCall F_inner_places (mCons (mVar 0) mNil)) (mName 2))
    (mSeq (mAsg (mLst mNil) (mName 3))
    (mSeq (mFor (mItems (mVar 2)) (mName 4) (mSeq (mAsg (mCall F_leaving_shares (mCons (mVar 0) (mCons (mVar 1) (mCons (mVar 4) mNil)))) (mName 9))
    (mDrop (mApp (mVar 3) (mCons (mBin fAdd (mFz (mLc (mItems (mVar 2)) (mName 13) mYes (mBin fIx (mVar 9) (mVar 13)) [13])) (mLstV (mCons (mNeg (mBin fIx (mVar 9) (mVar 8))) mNil))) mNil)))))
    (mSeq (mAsg (mCall F_solve_rows (mCons (mFz (mVar 3)) mNil)) (mgTup (mgCons (mName 10) (mgCons (mName 11) mgNil)) 2))
    (mSeq (mAsg (mBin fMulW (mLst (mCons (mC (.int 0)) mNil)) (mVar 6)) (mName 5))
    (mSeq (mAsg (mVar 10) (mgSub (mVar 5) (mVar 8)))
    (mSeq (mFor (mZipV (mCons (mVar 2) (mCons (mVar 11) mNil))) (mgTup (mgCons (mName 4) (mgCons (mName 12) mgNil)) 2) (mAsg (mVar 12) (mgSub (mVar 5) (mVar 4))))
    (mRet (mCall F_without_divisor (mCons (mFz (mVar 5)) mNil)))))))))))
def F_levels_for : DCall := den 2 14 M_levels_for
def M_amounts_of : MStm :=
  (mRet (mCall cTuple (mCons (mFz (mLc (mEnum (mCons (mBin fIx (mVar 0) (mC (.int 1))) mNil)) (mgTup (mgCons (mName 3) (mgCons (mgTup (mgCons (mName 4) (mgCons (mName 5) mgNil)) 2) mgNil)) 2) mYes (mBin fMulW (mBin fIx (mVar 1) (mVar 3)) (mCall cAbs (mCons (mBin fSub (mBin fIx (mVar 2) (mVar 4)) (mBin fIx (mVar 2) (mVar 5))) mNil))) [3, 4, 5])) mNil)))
def F_amounts_of : DCall := den 3 6 M_amounts_of
def M_leads_past : MStm :=
  (mSeq (mAsg (mVar 0) (mgTup (mgCons (mName 3) (mgCons (mName 4) mgNil)) 2))
    (mSeq (mIfS (mB (mBin (fIn false) (mVar 3) (mVar 2))) (mRet (mAndV (mBin (fIn true) (mVar 4) (mVar 2)) (mBin fNe (mVar 4) (mVar 1)))) mNx)
    (mRet (mAndV (mBin (fIn false) (mVar 4) (mVar 2)) (mBin fNe (mVar 3) (mVar 1))))))
def F_leads_past : DCall := den 3 5 M_leads_past
def M_can_lock : MStm :=
  (mSeq (mAsg (mVar 3) (mgTup (mgCons (mName 4) (mgCons (mName 5) mgNil)) 2))
    (mSeq (mIfS (mOr (mB (mBin (fIn false) (mVar 4) (mVar 5))) (mOr (mB (mBin (fIn false) (mBin fIx (mVar 0) (mC (.int 2))) (mVar 5))) (mB (mBin (fIn false) (mBin fIx (mVar 0) (mC (.int 3))) (mVar 5))))) (mRet (mC (.bl false))) mNx)
    (mSeq (mIfS (mNot (mB (mCall cAll (mCons (mFz (mLc (mItems (mBin fIx (mBin fIx (mVar 0) (mC (.int 1))) (mVar 1))) (mName 6) mYes (mOrV (mBin fEq (mVar 6) (mVar 4)) (mBin (fIn false) (mVar 6) (mVar 5))) [6])) mNil)))) (mRet (mC (.bl false))) mNx)
    (mRet (mCall cAll (mCons (mFz (mLc (mEnum (mCons (mBin fIx (mVar 0) (mC (.int 1))) mNil)) (mgTup (mgCons (mName 7) (mgCons (mName 8) mgNil)) 2) mYes (mOrV (mBin (fIn false) (mVar 7) (mVar 2)) (mNotV (mCall F_leads_past (mCons (mVar 8) (mCons (mVar 4) (mCons (mVar 5) mNil)))))) [7, 8])) mNil))))))
def F_can_lock : DCall := den 4 9 M_can_lock
def M_is_lock_form : MStm :=
  (mSeq (mIfS (mOr (mNot (mB (mIsi (mVar 1) "tuple"))) (mB (mBin fNe (mCall cLen (mCons (mVar 1) mNil)) (mC (.int 2))))) (mRet (mC (.bl false))) mNx)
    (mSeq (mAsg (mVar 1) (mgTup (mgCons (mName 2) (mgCons (mName 3) mgNil)) 2))
    (mRet (mAndV (mCall F_is_place (mCons (mVar 0) (mCons (mVar 2) mNil))) (mCall F_is_rising (mCons (mVar 3) (mCons (mBin fSub (mBin fIx (mVar 0) (mC (.int 0))) (mC (.int 1))) mNil)))))))
def F_is_lock_form : DCall := den 2 4 M_is_lock_form
def M_is_lock : MStm :=
  (mRet (mAndV (mCall F_is_lock_form (mCons (mVar 0) (mCons (mVar 3) mNil))) (mCall F_can_lock (mCons (mVar 0) (mCons (mVar 1) (mCons (mVar 2) (mCons (mVar 3) mNil)))))))
def F_is_lock : DCall := den 4 4 M_is_lock
def M_places_behind : MStm :=
  (mSeq (mAsg (mVar 0) (mgTup (mgCons (mName 5) (mgCons (mName 6) (mgCons (mName 7) (mgCons (mName 8) mgNil)))) 4))
    (mSeq (mAsg (mCall cTuple (mCons (mFz (mLc (mEnum (mCons (mVar 6) mNil)) (mgTup (mgCons (mName 10) (mgCons (mName 11) mgNil)) 2) (mAnd (mB (mBin (fIn true) (mVar 10) (mVar 2))) (mB (mBin (fIn true) (mVar 3) (mVar 11)))) (mVar 11) [10, 11])) mNil)) (mName 4))
    (mRet (mCall F_reached_from (mCons (mTup (mCons (mVar 5) (mCons (mVar 4) (mCons (mVar 7) (mCons (mVar 8) mNil))))) (mCons (mFz (mLc (mItems (mBin fIx (mVar 6) (mVar 1))) (mName 9) (mB (mBin fNe (mVar 9) (mVar 3))) (mVar 9) [9])) mNil))))))
def F_places_behind : DCall := den 4 12 M_places_behind
def M_lock_for : MStm :=
  (mSeq (mFor (mRange1 (mCons (mBin fIx (mVar 0) (mC (.int 0))) mNil)) (mName 3) (mSeq (mAsg (mCall F_places_behind (mCons (mVar 0) (mCons (mVar 1) (mCons (mVar 2) (mCons (mVar 3) mNil))))) (mName 4))
    (mIfS (mAnd (mB (mBin (fIn true) (mBin fIx (mVar 0) (mC (.int 2))) (mVar 4))) (mB (mBin (fIn true) (mBin fIx (mVar 0) (mC (.int 3))) (mVar 4)))) (mRet (mTup (mCons (mVar 3) (mCons (mVar 4) mNil)))) mNx)))
    (mRet (mC .non)))
def F_lock_for : DCall := den 3 5 M_lock_for
def M_is_within_others : MStm :=
  (mRet (mBin fIsNot (mCall F_lock_for (mCons (mVar 0) (mCons (mVar 1) (mCons (mVar 2) mNil)))) (mC .non)))
def F_is_within_others : DCall := den 3 3 M_is_within_others
def M_law_widths : MStm :=
  (mSeq (mAsg (mCall F_law_one_of (mCons (mVar 0) (mCons (mLstV (mCons (mC (.int 1)) (mCons (mC (.int 2)) (mCons (mC (.int 3)) (mCons (mC (.int 9)) (mCons (mBin fPow (mC (.int 10)) (mC (.int 6))) mNil)))))) mNil))) (mName 2))
    (mRet (mCall cTuple (mCons (mFz (mLc (mItems (mBin fIx (mVar 1) (mC (.int 1)))) (mName 3) mYes (mBin fAdd (mC (.int 1)) (mCall F_law_draw (mCons (mVar 0) (mCons (mVar 2) mNil)))) [3])) mNil))))
def F_law_widths : DCall := den 2 4 M_law_widths
def M_law_amounts : MStm :=
  (mSeq (mAsg (mLst mNil) (mName 3))
    (mSeq (mFor (mEnum (mCons (mBin fIx (mVar 0) (mC (.int 1))) mNil)) (mgTup (mgCons (mName 4) (mgCons (mgTup (mgCons (mName 5) (mgCons (mName 6) mgNil)) 2) mgNil)) 2) (mDrop (mApp (mVar 3) (mCons (mBin fMulW (mBin fIx (mVar 1) (mVar 4)) (mCall cAbs (mCons (mBin fSub (mBin fIx (mVar 2) (mVar 5)) (mBin fIx (mVar 2) (mVar 6))) mNil))) mNil))))
    (mRet (mCall cTuple (mCons (mVar 3) mNil)))))
def F_law_amounts : DCall := den 3 7 M_law_amounts
def M_law_others : MStm :=
  (mSeq (mAsg (mFz (mLc (mRange1 (mCons (mCall cLen (mCons (mBin fIx (mVar 1) (mC (.int 1))) mNil)) mNil)) (mName 4) (mB (mBin fNe (mVar 4) (mVar 2))) (mVar 4) [4])) (mName 3))
    (mRet (mCall cTuple (mCons (mFz (mLc (mItems (mVar 3)) (mName 4) (mB (mBin fEq (mCall F_law_draw (mCons (mVar 0) (mCons (mC (.int 3)) mNil))) (mC (.int 0)))) (mVar 4) [4])) mNil))))
def F_law_others : DCall := den 3 5 M_law_others
def M_law_beyond : MStm :=
  (mSeq (mAsg (mLst mNil) (mName 3))
    (mSeq (mFor (mItems (mCall F_law_all_routes (mCons (mVar 0) mNil))) (mName 4) (mIfS (mAnd (mB (mBin (fIn false) (mVar 1) (mVar 4))) (mB (mBin fEq (mFz (mLc (mItems (mVar 2)) (mName 5) (mB (mBin (fIn false) (mVar 5) (mVar 4))) (mVar 5) [5])) (mLstV mNil)))) (mDrop (mApp (mVar 3) (mCons (mVar 4) mNil))) mNx))
    (mRet (mFz (mVar 3)))))
def F_law_beyond : DCall := den 3 6 M_law_beyond
def M_law_is_lock_form : MStm :=
  (mSeq (mIfS (mOr (mNot (mB (mCall F_law_is_tuple (mCons (mVar 1) (mCons (mC (.int 2)) mNil))))) (mOr (mNot (mB (mCall F_law_whole (mCons (mBin fIx (mVar 1) (mC (.int 0))) (mCons (mC (.int 0)) (mCons (mBin fSub (mBin fIx (mVar 0) (mC (.int 0))) (mC (.int 1))) mNil)))))) (mNot (mB (mIsi (mBin fIx (mVar 1) (mC (.int 1))) "tuple"))))) (mRet (mC (.bl false))) mNx)
    (mSeq (mIfS (mB (mBin fNe (mFz (mLc (mItems (mBin fIx (mVar 1) (mC (.int 1)))) (mName 2) (mNot (mB (mCall F_law_whole (mCons (mVar 2) (mCons (mC (.int 0)) (mCons (mBin fSub (mBin fIx (mVar 0) (mC (.int 0))) (mC (.int 1))) mNil)))))) (mC (.int 1)) [2])) (mLstV mNil))) (mRet (mC (.bl false))) mNx)
    (mRet (mBin fEq (mCall (cFz cList) (mCons (mBin fIx (mVar 1) (mC (.int 1))) mNil)) (mFz (mSortSet (mCons (mBin fIx (mVar 1) (mC (.int 1))) mNil)))))))
def F_law_is_lock_form : DCall := den 2 3 M_law_is_lock_form
def M_law_is_lock : MStm :=
  (mSeq (mIfS (mNot (mB (mCall F_law_is_lock_form (mCons (mVar 0) (mCons (mVar 3) mNil))))) (mRet (mC (.bl false))) mNx)
    (mSeq (mAsg (mVar 3) (mgTup (mgCons (mName 4) (mgCons (mName 5) mgNil)) 2))
    (mSeq (mIfS (mOr (mB (mBin (fIn false) (mVar 4) (mVar 5))) (mOr (mB (mBin (fIn false) (mBin fIx (mVar 0) (mC (.int 2))) (mVar 5))) (mB (mBin (fIn false) (mBin fIx (mVar 0) (mC (.int 3))) (mVar 5))))) (mRet (mC (.bl false))) mNx)
    (mSeq (mIfS (mB (mBin fNe (mFz (mLc (mItems (mBin fIx (mBin fIx (mVar 0) (mC (.int 1))) (mVar 1))) (mName 9) (mAnd (mB (mBin (fIn true) (mVar 9) (mVar 5))) (mB (mBin fNe (mVar 9) (mVar 4)))) (mVar 9) [9])) (mLstV mNil))) (mRet (mC (.bl false))) mNx)
    (mSeq (mFor (mEnum (mCons (mBin fIx (mVar 0) (mC (.int 1))) mNil)) (mgTup (mgCons (mName 6) (mgCons (mgTup (mgCons (mName 7) (mgCons (mName 8) mgNil)) 2) mgNil)) 2) (mIfS (mAnd (mB (mBin (fIn true) (mVar 6) (mVar 2))) (mB (mBin fNe (mBin (fIn false) (mVar 7) (mVar 5)) (mBin (fIn false) (mVar 8) (mVar 5))))) (mIfS (mB (mBin (fIn true) (mVar 4) (mTup (mCons (mVar 7) (mCons (mVar 8) mNil))))) (mRet (mC (.bl false))) mNx) mNx))
    (mRet (mC (.bl true))))))))
def F_law_is_lock : DCall := den 4 10 M_law_is_lock
abbrev N_law : List Str := ["script", "pen", "turn", "mine", "w", "places", "drawn", "some", "value", "others", "widths", "before", "levels", "told", "is_so", "kept", "lap"]
def M_law : MStm :=
  (mSeq (mAsg (mCall F_law_pen (mCons (mVar 0) mNil)) (mName 1))
    (mSeq (mFor (mRange1 (mCons (mCall cMax (mCons (mC (.int 2)) (mCons (mCall cMin (mCons (mC (.int 5)) (mCons (mCall cLen (mCons (mVar 0) mNil)) mNil))) mNil))) mNil)) (mName 2) (mSeq (mAsg (mCall F_law_amount_mine (mCons (mVar 1) mNil)) (mName 3))
    (mSeq (mAsg (mCall F_law_draw (mCons (mVar 1) (mCons (mCall cLen (mCons (mBin fIx (mVar 3) (mC (.int 1))) mNil)) mNil))) (mName 4))
    (mSeq (mPar 9 10 (mCons (mCall F_law_others (mCons (mVar 1) (mCons (mVar 3) (mCons (mVar 4) mNil)))) (mCons (mCall F_law_widths (mCons (mVar 1) (mCons (mVar 3) mNil))) mNil)))
    (mSeq (mPar 11 12 (mCons (mCall cRepr (mCons (mTup (mCons (mVar 3) (mCons (mVar 9) mNil))) mNil)) (mCons (mCall F_levels_for (mCons (mVar 3) (mCons (mVar 10) mNil))) mNil)))
    (mSeq (mIfS (mB (mBin fNe (mCall cRepr (mCons (mCall F_amounts_of (mCons (mVar 3) (mCons (mVar 10) (mCons (mVar 12) mNil)))) mNil)) (mCall cRepr (mCons (mCall F_law_amounts (mCons (mVar 3) (mCons (mVar 10) (mCons (mVar 12) mNil)))) mNil)))) (mRet (mC (.bl false))) mNx)
    (mSeq (mPar 13 14 (mCons (mCall F_lock_for (mCons (mVar 3) (mCons (mVar 4) (mCons (mVar 9) mNil)))) (mCons (mBin fEq (mCall F_law_beyond (mCons (mVar 3) (mCons (mVar 4) (mCons (mVar 9) mNil)))) (mLstV mNil)) mNil)))
    (mSeq (mIfS (mB (mBin fNe (mCall cRepr (mCons (mCall F_is_within_others (mCons (mVar 3) (mCons (mVar 4) (mCons (mVar 9) mNil)))) mNil)) (mCall cRepr (mCons (mVar 14) mNil)))) (mRet (mC (.bl false))) mNx)
    (mSeq (mIfS (mOr (mB (mBin fNe (mBin fIsNot (mVar 13) (mC .non)) (mVar 14))) (mAnd (mB (mBin fIsNot (mVar 13) (mC .non))) (mNot (mB (mCall F_law_is_lock (mCons (mVar 3) (mCons (mVar 4) (mCons (mVar 9) (mCons (mVar 13) mNil))))))))) (mRet (mC (.bl false))) mNx)
    (mSeq (mAsg (mCall cTuple (mCons (mSortSetL (mCons (mFz (mLc (mRange1 (mCons (mC (.int 3)) mNil)) (mName 16) mYes (mCall F_law_draw (mCons (mVar 1) (mCons (mBin fIx (mVar 3) (mC (.int 0))) mNil))) [16])) mNil)) mNil)) (mName 5))
    (mSeq (mAsg (mTup (mCons (mCall F_law_draw (mCons (mVar 1) (mCons (mBin fIx (mVar 3) (mC (.int 0))) mNil))) (mCons (mVar 5) mNil))) (mName 6))
    (mSeq (mAsg (mLstV (mCons (mVar 13) (mCons (mTup (mCons (mVar 13) mNil)) (mCons (mCall F_law_bent (mCons (mVar 1) (mCons (mVar 6) (mCons (mC (.int 2)) mNil)))) (mCons (mVar 6) (mCons (mTup (mCons (mBin fIx (mVar 6) (mC (.int 0))) (mCons (mTup mNil) mNil))) (mCons (mTup (mCons (mBin fIx (mVar 6) (mC (.int 0))) (mCons (mRevT (mVar 5)) mNil))) (mCons (mCall (cFz cList) (mCons (mVar 6) mNil)) mNil)))))))) (mName 7))
    (mSeq (mIfS (mB (mBin fIsNot (mVar 13) (mC .non))) (mAsg (mBin fAdd (mVar 7) (mLstV (mCons (mCall F_law_twice_bent (mCons (mVar 1) (mCons (mVar 13) (mCons (mC (.int 3)) mNil)))) (mCons (mTup (mCons (mBin fIx (mVar 6) (mC (.int 0))) (mCons (mBin fIx (mVar 13) (mC (.int 1))) mNil))) (mCons (mTup (mCons (mBin fIx (mVar 13) (mC (.int 0))) (mCons (mBin fAdd (mBin fIx (mVar 13) (mC (.int 1))) (mBin fIx (mVar 13) (mC (.int 1)))) mNil))) mNil))))) (mName 7)) mNx)
    (mSeq (mFor (mItems (mBin fAdd (mVar 7) (mLstV (mCons (mCall F_law_odd (mCons (mVar 1) mNil)) mNil)))) (mName 8) (mSeq (mAsg (mCall cReprX (mCons (mVar 8) mNil)) (mName 15))
    (mSeq (mIfS (mB (mBin fNe (mCall cRepr (mCons (mCall F_is_lock (mCons (mVar 3) (mCons (mVar 4) (mCons (mVar 9) (mCons (mVar 8) mNil))))) mNil)) (mCall cRepr (mCons (mCall F_law_is_lock (mCons (mVar 3) (mCons (mVar 4) (mCons (mVar 9) (mCons (mVar 8) mNil))))) mNil)))) (mRet (mC (.bl false))) mNx)
    (mIfS (mB (mBin fNe (mCall cReprX (mCons (mVar 8) mNil)) (mVar 15))) (mRet (mC (.bl false))) mNx))))
    (mIfS (mB (mBin fNe (mCall cRepr (mCons (mTup (mCons (mVar 3) (mCons (mVar 9) mNil))) mNil)) (mVar 11))) (mRet (mC (.bl false))) mNx)))))))))))))))
    (mRet (mC (.bl true)))))
def F_law : DCall := den 1 17 M_law
end K70
set_option Elab.async false
set_option linter.all false
set_option maxRecDepth 100000
set_option maxHeartbeats 4000000
namespace K70
open PySem PySem.Spec PyProof.Rows L2 MS TM K14 K74
def t_is_rising (v_value : D) (v_most : Int) : Option Bool :=
  (((((((some v_value)).bind fun x2 => isiT "tuple" x2)).bind fun x3 => some (!x3))).bind fun x1 => cond x1 (some false) (((some (0 : Int))).bind fun x4 => (((((((some v_value)).bind fun x6 => asV x6)).bind fun x8 => loopR (fun a7 (s5 : Int) => (((((((some a7)).bind fun x10 => ((some s5)).bind fun x11 => ((some v_most)).bind fun x12 => t_is_integer_within x10 x11 x12)).bind fun x13 => some (!x13))).bind fun x9 => cond x9 (((some false)).bind fun x19 => some (Out.rt x19)) (((((((((some a7)).bind fun x15 => asI x15)).bind fun x16 => ((some (1 : Int))).bind fun x17 => some (x16 + x17))).bind fun x14 => some x14)).bind fun x18 => some (Out.nx x18)))) x8 x4)).bind fun o21 => o21.fin (fun s20 => (some true)) some)))
def t_is_place (v_mine : (Int × (List (Int × Int)) × Int × Int)) (v_value : D) : Option Bool :=
  (((some v_value)).bind fun x4 => ((some (0 : Int))).bind fun x5 => ((((((some v_mine)).bind fun x1 => some x1.1)).bind fun x2 => ((some (1 : Int))).bind fun x3 => some (x2 - x3))).bind fun x6 => t_is_integer_within x4 x5 x6)
def t_inner_places (v_mine : (Int × (List (Int × Int)) × Int × Int)) : Option (List Int) :=
  (((some v_mine)).bind fun x1 => (((((((some x1.1)).bind fun x2 => rng1 x2)).bind fun x9 => compM (fun a3 => (((some a3)).bind fun x4 => ((((((some x1.2.2.1)).bind fun x6 => ((some x1.2.2.2)).bind fun x7 => some (x6, x7))).bind fun x8 => some [x8.1, x8.2])).bind fun x5 => some (!decide (x4 ∈ x5)))) (fun a3 => (some a3)) x9)).bind fun x10 => some x10))
def t_near_places (v_mine : (Int × (List (Int × Int)) × Int × Int)) (v_x : Int) : Option (List Int) :=
  (((((((some v_mine)).bind fun x1 => ((some v_x)).bind fun x2 => t_ways_at x1 x2)).bind fun x7 => setM (fun a3 => (some true)) (fun a3 => (((some v_mine)).bind fun x4 => ((some a3)).bind fun x5 => ((some v_x)).bind fun x6 => t_far_end x4 x5 x6)) x7)).bind fun x9 => some x9)
def t_reached_from (v_mine : (Int × (List (Int × Int)) × Int × Int)) (v_starts : (List Int)) : Option (List Int) :=
  (((some v_starts)).bind fun x1 => (((some (0 : Int))).bind fun x2 => (((whileT (fun s3 : Int × (List Int) => (((some s3.1)).bind fun x4 => ((some ((s3.2).length : Int))).bind fun x5 => some (decide (x4 < x5)))) (fun s3 : Int × (List Int) => (((((((some v_mine)).bind fun x8 => ((((some s3.1)).bind fun x7 => atT s3.2 x7)).bind fun x9 => t_near_places x8 x9)).bind fun x11 => loopN (fun a10 (s6 : (List Int)) => (((((some a10)).bind fun x12 => some (!decide (x12 ∈ s6)))).bind fun x14 => cond x14 (((((some a10)).bind fun x16 => pushM s6 x16)).bind fun x15 => some x15) ((some ()).bind fun _ => some s6))) x11 s3.2)).bind fun s17 => (((((some (1 : Int))).bind fun x19 => some (s3.1 + x19))).bind fun x18 => some (x18, s17)))) 1000 (x2, x1))).bind fun s20 => (((some (sortI s20.2))).bind fun x21 => some x21))))
def t_leaving_shares (v_mine : (Int × (List (Int × Int)) × Int × Int)) (v_widths : (List Int)) (v_x : Int) : Option (List Int) :=
  (((((some (0 : Int))).bind fun x3 => ((((some v_mine)).bind fun x2 => some x2.1)).bind fun x4 => repT x3 x4)).bind fun x1 => (((((((some v_mine)).bind fun x6 => ((some v_x)).bind fun x7 => t_ways_at x6 x7)).bind fun x9 => loopN (fun a8 (s5 : (List Int)) => (((((some v_mine)).bind fun x11 => ((some a8)).bind fun x12 => ((some v_x)).bind fun x13 => t_far_end x11 x12 x13)).bind fun x10 => (((((((((some v_x)).bind fun x15 => atT s5 x15)).bind fun x18 => ((((some v_widths)).bind fun x16 => ((some a8)).bind fun x17 => atT x16 x17)).bind fun x19 => some (x18 + x19))).bind fun x20 => ((some v_x)).bind fun x21 => putT s5 x21 x20)).bind fun x14 => (((((((((some x10)).bind fun x23 => atT x14 x23)).bind fun x26 => ((((some v_widths)).bind fun x24 => ((some a8)).bind fun x25 => atT x24 x25)).bind fun x27 => some (x26 - x27))).bind fun x28 => ((some x10)).bind fun x29 => putT x14 x29 x28)).bind fun x22 => some x22)))) x9 x1)).bind fun s30 => (some s30)))
def t_cleared_row (v_row : (List Int)) (v_lead : (List Int)) (v_k : Int) (v_before : Int) : Option (List Int) :=
  (((((some v_row)).bind fun x1 => ((some v_lead)).bind fun x2 => some (x1.zip x2))).bind fun x20 => compM (fun a3 => (some true)) (fun a3 => (((((((((some v_lead)).bind fun x6 => ((some v_k)).bind fun x7 => atT x6 x7)).bind fun x8 => ((some a3.1)).bind fun x9 => mulW_ x8 x9)).bind fun x16 => ((((((some v_row)).bind fun x12 => ((some v_k)).bind fun x13 => atT x12 x13)).bind fun x14 => ((some a3.2)).bind fun x15 => mulW_ x14 x15)).bind fun x17 => some (x16 - x17))).bind fun x18 => ((some v_before)).bind fun x19 => divW_ x18 x19)) x20)
def t_solve_rows (v_rows : (List (List Int))) : Option (Int × (List Int)) :=
  (((some (1 : Int))).bind fun x1 => (((((some v_rows)).bind fun x3 => some (x3.length : Int))).bind fun x2 => (((((((some x2)).bind fun x5 => rng1 x5)).bind fun x7 => loopN (fun a6 (s4 : (List (List Int)) × Int) => (((((some s4.1)).bind fun x9 => ((some a6)).bind fun x10 => atT x9 x10)).bind fun x8 => (((((((some s4.1)).bind fun x12 => some (enumI x12))).bind fun x21 => compM (fun a13 => (some true)) (fun a13 => (((((some a13.1)).bind fun x14 => ((some a6)).bind fun x15 => some (decide (x14 = x15)))).bind fun x20 => cond x20 (some a13.2) (((some a13.2)).bind fun x16 => ((some x8)).bind fun x17 => ((some a6)).bind fun x18 => ((some s4.2)).bind fun x19 => t_cleared_row x16 x17 x18 x19))) x21)).bind fun x11 => (((((some x8)).bind fun x23 => ((some a6)).bind fun x24 => atT x23 x24)).bind fun x22 => some (x11, x22))))) x7 (v_rows, x1))).bind fun s25 => (((some s25.2)).bind fun x31 => ((((some s25.1)).bind fun x30 => compM (fun a26 => (some true)) (fun a26 => (((some a26)).bind fun x28 => ((((some (1 : Int))).bind fun x27 => some (-x27))).bind fun x29 => atT x28 x29)) x30)).bind fun x32 => some (x31, x32)))))
def t_without_divisor (v_levels : (List Int)) : Option (List Int) :=
  (((some (0 : Int))).bind fun x1 => (((((some v_levels)).bind fun x4 => loopN (fun a3 (s2 : Int) => (((((some s2)).bind fun x6 => ((some a3)).bind fun x7 => some ((Nat.gcd x6.natAbs x7.natAbs : Nat) : Int))).bind fun x5 => some x5)) x4 x1)).bind fun s8 => (((((some v_levels)).bind fun x12 => compM (fun a9 => (some true)) (fun a9 => (((some a9)).bind fun x10 => ((some s8)).bind fun x11 => divW_ x10 x11)) x12)).bind fun x13 => some x13)))
def t_levels_for (v_mine : (Int × (List (Int × Int)) × Int × Int)) (v_widths : (List Int)) : Option (List Int) :=
  (((some v_mine)).bind fun x1 => (((((some v_mine)).bind fun x3 => t_inner_places x3)).bind fun x2 => (((some ([] : List (List Int)))).bind fun x4 => (((((some x2)).bind fun x7 => loopN (fun a6 (s5 : (List (List Int))) => (((((some v_mine)).bind fun x9 => ((some v_widths)).bind fun x10 => ((some a6)).bind fun x11 => t_leaving_shares x9 x10 x11)).bind fun x8 => (((((((((some x2)).bind fun x17 => compM (fun a14 => (some true)) (fun a14 => (((some x8)).bind fun x15 => ((some a14)).bind fun x16 => atT x15 x16)) x17)).bind fun x22 => ((((((((some x8)).bind fun x18 => ((some x1.2.2.1)).bind fun x19 => atT x18 x19)).bind fun x20 => some (-x20))).bind fun x21 => some [x21])).bind fun x23 => extM x22 x23)).bind fun x13 => pushM s5 x13)).bind fun x12 => some x12))) x7 x4)).bind fun s24 => (((((some s24)).bind fun x26 => t_solve_rows x26)).bind fun x25 => (((((some (0 : Int))).bind fun x28 => ((some x1.1)).bind fun x29 => repT x28 x29)).bind fun x27 => (((((some x25.1)).bind fun x31 => ((some x1.2.2.1)).bind fun x32 => putT x27 x32 x31)).bind fun x30 => (((((((some x2)).bind fun x34 => ((some x25.2)).bind fun x35 => some (x34.zip x35))).bind fun x37 => loopN (fun a36 (s33 : (List Int)) => (((((some a36.2)).bind fun x39 => ((some a36.1)).bind fun x40 => putT s33 x40 x39)).bind fun x38 => some x38)) x37 x30)).bind fun s41 => (((some s41)).bind fun x42 => t_without_divisor x42)))))))))
def t_amounts_of (v_mine : (Int × (List (Int × Int)) × Int × Int)) (v_widths : (List Int)) (v_levels : (List Int)) : Option (List Int) :=
  (((((((((some v_mine)).bind fun x1 => some x1.2.1)).bind fun x2 => some (enumI x2))).bind fun x17 => compM (fun a3 => (some true)) (fun a3 => (((((some v_widths)).bind fun x6 => ((some a3.1)).bind fun x7 => atT x6 x7)).bind fun x15 => ((((((((some v_levels)).bind fun x8 => ((some a3.2.1)).bind fun x9 => atT x8 x9)).bind fun x12 => ((((some v_levels)).bind fun x10 => ((some a3.2.2)).bind fun x11 => atT x10 x11)).bind fun x13 => some (x12 - x13))).bind fun x14 => some (if x14 < 0 then -x14 else x14))).bind fun x16 => mulW_ x15 x16)) x17)).bind fun x18 => some x18)
def t_leads_past (v_way : (Int × Int)) (v_gate : Int) (v_some : (List Int)) : Option Bool :=
  (((some v_way)).bind fun x1 => (((((some x1.1)).bind fun x3 => ((some v_some)).bind fun x4 => some (decide (x3 ∈ x4)))).bind fun x2 => cond x2 (((((some x1.2)).bind fun x7 => ((some v_some)).bind fun x8 => some (!decide (x7 ∈ x8)))).bind fun x9 => cond x9 (((some x1.2)).bind fun x5 => ((some v_gate)).bind fun x6 => some (!decide (x5 = x6))) (some false)) (((((some x1.2)).bind fun x12 => ((some v_some)).bind fun x13 => some (decide (x12 ∈ x13)))).bind fun x14 => cond x14 (((some x1.1)).bind fun x10 => ((some v_gate)).bind fun x11 => some (!decide (x10 = x11))) (some false))))
def t_can_lock (v_mine : (Int × (List (Int × Int)) × Int × Int)) (v_w : Int) (v_others : (List Int)) (v_lock : (Int × (List Int))) : Option Bool :=
  (((some v_lock)).bind fun x1 => (((((((some x1.1)).bind fun x10 => ((some x1.2)).bind fun x11 => some (decide (x10 ∈ x11)))).bind fun x12 => cond x12 (some true) (((((((some v_mine)).bind fun x8 => some x8.2.2.1)).bind fun x6 => ((some x1.2)).bind fun x7 => some (decide (x6 ∈ x7)))).bind fun x9 => cond x9 (some true) (((((some v_mine)).bind fun x5 => some x5.2.2.2)).bind fun x3 => ((some x1.2)).bind fun x4 => some (decide (x3 ∈ x4)))))).bind fun x2 => cond x2 (some false) (((((((((((((((some v_mine)).bind fun x14 => some x14.2.1)).bind fun x15 => ((some v_w)).bind fun x16 => atT x15 x16)).bind fun x17 => some [x17.1, x17.2])).bind fun x24 => compM (fun a18 => (some true)) (fun a18 => (((((some a18)).bind fun x21 => ((some x1.1)).bind fun x22 => some (decide (x21 = x22)))).bind fun x23 => cond x23 (some true) (((some a18)).bind fun x19 => ((some x1.2)).bind fun x20 => some (decide (x19 ∈ x20))))) x24)).bind fun x25 => some (x25.all id))).bind fun x26 => some (!x26))).bind fun x13 => cond x13 (some false) (((((((((some v_mine)).bind fun x27 => some x27.2.1)).bind fun x28 => some (enumI x28))).bind fun x37 => compM (fun a29 => (some true)) (fun a29 => (((((some a29.1)).bind fun x34 => ((some v_others)).bind fun x35 => some (decide (x34 ∈ x35)))).bind fun x36 => cond x36 (some true) (((((some a29.2)).bind fun x30 => ((some x1.1)).bind fun x31 => ((some x1.2)).bind fun x32 => t_leads_past x30 x31 x32)).bind fun x33 => some (!x33)))) x37)).bind fun x38 => some (x38.all id)))))
def t_is_lock_form (v_mine : (Int × (List (Int × Int)) × Int × Int)) (v_value : D) : Option Bool :=
  (((((((((some v_value)).bind fun x6 => isiT "tuple" x6)).bind fun x7 => some (!x7))).bind fun x8 => cond x8 (some true) (((((((some v_value)).bind fun x2 => asV x2)).bind fun x3 => some (x3.length : Int))).bind fun x4 => ((some (2 : Int))).bind fun x5 => some (!decide (x4 = x5))))).bind fun x1 => cond x1 (some false) (((((some v_value)).bind fun x10 => asT2 x10)).bind fun x9 => (((((some v_mine)).bind fun x16 => ((some x9.1)).bind fun x17 => t_is_place x16 x17)).bind fun x18 => cond x18 (((some x9.2)).bind fun x14 => ((((((some v_mine)).bind fun x11 => some x11.1)).bind fun x12 => ((some (1 : Int))).bind fun x13 => some (x12 - x13))).bind fun x15 => t_is_rising x14 x15) (some false))))
def t_is_lock (v_mine : (Int × (List (Int × Int)) × Int × Int)) (v_w : Int) (v_others : (List Int)) (v_value : D) : Option Bool :=
  (((((some v_mine)).bind fun x6 => ((some v_value)).bind fun x7 => t_is_lock_form x6 x7)).bind fun x8 => cond x8 (((some v_mine)).bind fun x2 => ((some v_w)).bind fun x3 => ((some v_others)).bind fun x4 => ((((some v_value)).bind fun x1 => (asT2o asI (asVo asI)) x1)).bind fun x5 => t_can_lock x2 x3 x4 x5) (some false))
def t_places_behind (v_mine : (Int × (List (Int × Int)) × Int × Int)) (v_w : Int) (v_others : (List Int)) (v_gate : Int) : Option (List Int) :=
  (((some v_mine)).bind fun x1 => (((((((((some x1.2.1)).bind fun x3 => some (enumI x3))).bind fun x11 => compM (fun a4 => (((((some a4.1)).bind fun x8 => ((some v_others)).bind fun x9 => some (!decide (x8 ∈ x9)))).bind fun x10 => cond x10 (((some v_gate)).bind fun x5 => ((((some a4.2)).bind fun x7 => some [x7.1, x7.2])).bind fun x6 => some (!decide (x5 ∈ x6))) (some false))) (fun a4 => (some a4.2)) x11)).bind fun x12 => some x12)).bind fun x2 => (((((some x1.1)).bind fun x13 => ((some x2)).bind fun x14 => ((some x1.2.2.1)).bind fun x15 => ((some x1.2.2.2)).bind fun x16 => some (x13, x14, x15, x16))).bind fun x24 => ((((((((some x1.2.1)).bind fun x17 => ((some v_w)).bind fun x18 => atT x17 x18)).bind fun x19 => some [x19.1, x19.2])).bind fun x23 => compM (fun a20 => (((some a20)).bind fun x21 => ((some v_gate)).bind fun x22 => some (!decide (x21 = x22)))) (fun a20 => (some a20)) x23)).bind fun x25 => t_reached_from x24 x25)))
def t_lock_for (v_mine : (Int × (List (Int × Int)) × Int × Int)) (v_w : Int) (v_others : (List Int)) : Option D :=
  (((((((((some v_mine)).bind fun x2 => some x2.1)).bind fun x3 => rng1 x3)).bind fun x5 => loopR (fun a4 (s1 : Unit) => (((((some v_mine)).bind fun x7 => ((some v_w)).bind fun x8 => ((some v_others)).bind fun x9 => ((some a4)).bind fun x10 => t_places_behind x7 x8 x9 x10)).bind fun x6 => (((((((((some v_mine)).bind fun x17 => some x17.2.2.1)).bind fun x15 => ((some x6)).bind fun x16 => some (!decide (x15 ∈ x16)))).bind fun x18 => cond x18 (((((some v_mine)).bind fun x14 => some x14.2.2.2)).bind fun x12 => ((some x6)).bind fun x13 => some (!decide (x12 ∈ x13))) (some false))).bind fun x11 => cond x11 (((((((some a4)).bind fun x19 => ((some x6)).bind fun x20 => some (x19, x20))).bind fun x21 => some ((eT2 eI (eV eI)) x21))).bind fun x22 => some (Out.rt x22)) ((((some ()).bind fun _ => some ())).bind fun x23 => some (Out.nx x23))))) x5 ())).bind fun o25 => o25.fin (fun s24 => (some D.non)) some)
def t_is_within_others (v_mine : (Int × (List (Int × Int)) × Int × Int)) (v_w : Int) (v_others : (List Int)) : Option Bool :=
  (((((some v_mine)).bind fun x1 => ((some v_w)).bind fun x2 => ((some v_others)).bind fun x3 => t_lock_for x1 x2 x3)).bind fun x4 => some (!x4.isNon))
def t_law_widths (v_mine : (Int × (List (Int × Int)) × Int × Int)) : PM (List Int) :=
  (bP (bP (lP (((some (1 : Int))).bind fun x4 => ((some (2 : Int))).bind fun x5 => ((some (3 : Int))).bind fun x6 => ((some (9 : Int))).bind fun x7 => ((((some (10 : Int))).bind fun x2 => ((some (6 : Int))).bind fun x3 => pow_ x2 x3)).bind fun x8 => some [x4, x5, x6, x7, x8])) fun x9 => (t_law_one_of x9)) fun x1 => (bP (bP (lP (((some v_mine)).bind fun x10 => some x10.2.1)) fun x15 => (compP (fun a11 => (lP (some true))) (fun a11 => (bP (lP (some (1 : Int))) fun x13 => (bP (bP (lP (some x1)) fun x12 => (t_law_draw x12)) fun x14 => (lP (some (x13 + x14)))))) x15)) fun x16 => (lP (some x16))))
def t_law_amounts (v_mine : (Int × (List (Int × Int)) × Int × Int)) (v_widths : (List Int)) (v_levels : (List Int)) : Option (List Int) :=
  (((some ([] : List Int))).bind fun x1 => (((((((((some v_mine)).bind fun x3 => some x3.2.1)).bind fun x4 => some (enumI x4))).bind fun x6 => loopN (fun a5 (s2 : (List Int)) => (((((((((some v_widths)).bind fun x11 => ((some a5.1)).bind fun x12 => atT x11 x12)).bind fun x20 => ((((((((some v_levels)).bind fun x13 => ((some a5.2.1)).bind fun x14 => atT x13 x14)).bind fun x17 => ((((some v_levels)).bind fun x15 => ((some a5.2.2)).bind fun x16 => atT x15 x16)).bind fun x18 => some (x17 - x18))).bind fun x19 => some (if x19 < 0 then -x19 else x19))).bind fun x21 => mulW_ x20 x21)).bind fun x8 => pushM s2 x8)).bind fun x7 => some x7)) x6 x1)).bind fun s22 => (some s22)))
def t_law_others (v_mine : (Int × (List (Int × Int)) × Int × Int)) (v_w : Int) : PM (List Int) :=
  (bP (lP (((((((((some v_mine)).bind fun x2 => some x2.2.1)).bind fun x3 => some (x3.length : Int))).bind fun x4 => rng1 x4)).bind fun x8 => compM (fun a5 => (((some a5)).bind fun x6 => ((some v_w)).bind fun x7 => some (!decide (x6 = x7)))) (fun a5 => (some a5)) x8)) fun x1 => (bP (bP (lP (some x1)) fun x13 => (compP (fun a9 => (bP (bP (lP (some (3 : Int))) fun x10 => (t_law_draw x10)) fun x11 => (bP (lP (some (0 : Int))) fun x12 => (lP (some (decide (x11 = x12))))))) (fun a9 => (lP (some a9))) x13)) fun x14 => (lP (some x14))))
def t_law_beyond (v_mine : (Int × (List (Int × Int)) × Int × Int)) (v_w : Int) (v_others : (List Int)) : Option (List (List Int)) :=
  (((some ([] : List (List Int)))).bind fun x1 => (((((((some v_mine)).bind fun x3 => t_law_all_routes x3)).bind fun x5 => loopN (fun a4 (s2 : (List (List Int))) => (((((((some v_w)).bind fun x12 => ((some a4)).bind fun x13 => some (decide (x12 ∈ x13)))).bind fun x14 => cond x14 (((((some v_others)).bind fun x9 => compM (fun a6 => (((some a6)).bind fun x7 => ((some a4)).bind fun x8 => some (decide (x7 ∈ x8)))) (fun a6 => (some a6)) x9)).bind fun x10 => ((some ([] : (List Int)))).bind fun x11 => some (decide (x10 = x11))) (some false))).bind fun x15 => cond x15 (((((some a4)).bind fun x17 => pushM s2 x17)).bind fun x16 => some x16) ((some ()).bind fun _ => some s2))) x5 x1)).bind fun s18 => (some s18)))
def t_law_is_lock_form (v_mine : (Int × (List (Int × Int)) × Int × Int)) (v_value : D) : Option Bool :=
  (((((((((some v_value)).bind fun x18 => ((some (2 : Int))).bind fun x19 => t_law_is_tuple x18 x19)).bind fun x20 => some (!x20))).bind fun x21 => cond x21 (some true) (((((((((((some v_value)).bind fun x7 => asV x7)).bind fun x8 => ((some (0 : Int))).bind fun x9 => atT x8 x9)).bind fun x13 => ((some (0 : Int))).bind fun x14 => ((((((some v_mine)).bind fun x10 => some x10.1)).bind fun x11 => ((some (1 : Int))).bind fun x12 => some (x11 - x12))).bind fun x15 => t_law_whole x13 x14 x15)).bind fun x16 => some (!x16))).bind fun x17 => cond x17 (some true) (((((((((some v_value)).bind fun x2 => asV x2)).bind fun x3 => ((some (1 : Int))).bind fun x4 => atT x3 x4)).bind fun x5 => isiT "tuple" x5)).bind fun x6 => some (!x6))))).bind fun x1 => cond x1 (some false) (((((((((((((some v_value)).bind fun x23 => asV x23)).bind fun x24 => ((some (1 : Int))).bind fun x25 => atT x24 x25)).bind fun x26 => asV x26)).bind fun x35 => compM (fun a27 => (((((some a27)).bind fun x31 => ((some (0 : Int))).bind fun x32 => ((((((some v_mine)).bind fun x28 => some x28.1)).bind fun x29 => ((some (1 : Int))).bind fun x30 => some (x29 - x30))).bind fun x33 => t_law_whole x31 x32 x33)).bind fun x34 => some (!x34))) (fun a27 => (some (1 : Int))) x35)).bind fun x36 => ((some ([] : (List Int)))).bind fun x37 => some (!decide (x36 = x37)))).bind fun x22 => cond x22 (some false) (((((((((((some v_value)).bind fun x38 => asV x38)).bind fun x39 => ((some (1 : Int))).bind fun x40 => atT x39 x40)).bind fun x41 => (asVo asI) x41)).bind fun x42 => some x42)).bind fun x51 => ((((((((((some v_value)).bind fun x46 => asV x46)).bind fun x47 => ((some (1 : Int))).bind fun x48 => atT x47 x48)).bind fun x49 => (asVo asI) x49)).bind fun x50 => sortSV x50)).bind fun x52 => some (decide (x51 = x52)))))
def t_law_is_lock (v_mine : (Int × (List (Int × Int)) × Int × Int)) (v_w : Int) (v_others : (List Int)) (v_value : D) : Option Bool :=
  (((((((some v_mine)).bind fun x2 => ((some v_value)).bind fun x3 => t_law_is_lock_form x2 x3)).bind fun x4 => some (!x4))).bind fun x1 => cond x1 (some false) (((((some v_value)).bind fun x6 => (asT2o asI (asVo asI)) x6)).bind fun x5 => (((((((some x5.1)).bind fun x15 => ((some x5.2)).bind fun x16 => some (decide (x15 ∈ x16)))).bind fun x17 => cond x17 (some true) (((((((some v_mine)).bind fun x13 => some x13.2.2.1)).bind fun x11 => ((some x5.2)).bind fun x12 => some (decide (x11 ∈ x12)))).bind fun x14 => cond x14 (some true) (((((some v_mine)).bind fun x10 => some x10.2.2.2)).bind fun x8 => ((some x5.2)).bind fun x9 => some (decide (x8 ∈ x9)))))).bind fun x7 => cond x7 (some false) (((((((((((((some v_mine)).bind fun x19 => some x19.2.1)).bind fun x20 => ((some v_w)).bind fun x21 => atT x20 x21)).bind fun x22 => some [x22.1, x22.2])).bind fun x29 => compM (fun a23 => (((((some a23)).bind fun x26 => ((some x5.2)).bind fun x27 => some (!decide (x26 ∈ x27)))).bind fun x28 => cond x28 (((some a23)).bind fun x24 => ((some x5.1)).bind fun x25 => some (!decide (x24 = x25))) (some false))) (fun a23 => (some a23)) x29)).bind fun x30 => ((some ([] : (List Int)))).bind fun x31 => some (!decide (x30 = x31)))).bind fun x18 => cond x18 (some false) (((((((((some v_mine)).bind fun x33 => some x33.2.1)).bind fun x34 => some (enumI x34))).bind fun x36 => loopR (fun a35 (s32 : Unit) => (((((((some a35.1)).bind fun x44 => ((some v_others)).bind fun x45 => some (!decide (x44 ∈ x45)))).bind fun x46 => cond x46 (((((some a35.2.1)).bind fun x38 => ((some x5.2)).bind fun x39 => some (decide (x38 ∈ x39)))).bind fun x42 => ((((some a35.2.2)).bind fun x40 => ((some x5.2)).bind fun x41 => some (decide (x40 ∈ x41)))).bind fun x43 => some (!decide (x42 = x43))) (some false))).bind fun x37 => cond x37 (((((some x5.1)).bind fun x48 => ((((((some a35.2.1)).bind fun x50 => ((some a35.2.2)).bind fun x51 => some (x50, x51))).bind fun x52 => some [x52.1, x52.2])).bind fun x49 => some (!decide (x48 ∈ x49)))).bind fun x47 => cond x47 (((some false)).bind fun x53 => some (Out.rt x53)) ((((some ()).bind fun _ => some ())).bind fun x54 => some (Out.nx x54))) ((((some ()).bind fun _ => some ())).bind fun x55 => some (Out.nx x55)))) x36 ())).bind fun o57 => o57.fin (fun s56 => (some true)) some)))))
def t_law (v_script : List Int) : PM Bool :=
  (bP (bP (lP (((((some (2 : Int))).bind fun x5 => ((((some (5 : Int))).bind fun x3 => ((((some v_script)).bind fun x2 => some (x2.length : Int))).bind fun x4 => some (if x4 < x3 then x4 else x3))).bind fun x6 => some (if x6 > x5 then x6 else x5))).bind fun x7 => rng1 x7)) fun x9 => (loopRP (fun a8 (s1 : Unit) => (bP t_law_amount_mine fun x10 => (bP (bP (lP (((((some x10)).bind fun x12 => some x12.2.1)).bind fun x13 => some (x13.length : Int))) fun x14 => (t_law_draw x14)) fun x11 => (bP (bP (bP (lP (some x10)) fun x16 => (bP (lP (some x11)) fun x17 => (t_law_others x16 x17))) fun x19 => (bP (bP (lP (some x10)) fun x18 => (t_law_widths x18)) fun x20 => (lP (some (x19, x20))))) fun x15 => (bP (lP (((((((some x10)).bind fun x24 => ((some x15.1)).bind fun x25 => some (x24, x25))).bind fun x26 => repr_ ((faT2 (faT4 faI (faV (faT2 faI faI)) faI faI) (faV faI)).py x26))).bind fun x29 => ((((some x10)).bind fun x27 => ((some x15.2)).bind fun x28 => t_levels_for x27 x28)).bind fun x30 => some (x29, x30))) fun x21 => (bP (lP (((((((some x10)).bind fun x35 => ((some x15.2)).bind fun x36 => ((some x21.2)).bind fun x37 => t_amounts_of x35 x36 x37)).bind fun x38 => repr_ ((faV faI).py x38))).bind fun x46 => ((((((some x10)).bind fun x42 => ((some x15.2)).bind fun x43 => ((some x21.2)).bind fun x44 => t_law_amounts x42 x43 x44)).bind fun x45 => repr_ ((faV faI).py x45))).bind fun x47 => some (!decide (x46 = x47)))) fun x31 => (cond x31 (lP (((some false)).bind fun x252 => some (Out.rt x252))) (bP (lP (((((some x10)).bind fun x49 => ((some x11)).bind fun x50 => ((some x15.1)).bind fun x51 => t_lock_for x49 x50 x51)).bind fun x57 => ((((((some x10)).bind fun x52 => ((some x11)).bind fun x53 => ((some x15.1)).bind fun x54 => t_law_beyond x52 x53 x54)).bind fun x55 => ((some ([] : (List (List Int))))).bind fun x56 => some (decide (x55 = x56)))).bind fun x58 => some (x57, x58))) fun x48 => (bP (lP (((((((some x10)).bind fun x63 => ((some x11)).bind fun x64 => ((some x15.1)).bind fun x65 => t_is_within_others x63 x64 x65)).bind fun x66 => repr_ (faB.py x66))).bind fun x68 => ((((some x48.2)).bind fun x67 => repr_ (faB.py x67))).bind fun x69 => some (!decide (x68 = x69)))) fun x59 => (cond x59 (lP (((some false)).bind fun x251 => some (Out.rt x251))) (bP (lP (((((((some x48.1)).bind fun x78 => some (!x78.isNon))).bind fun x79 => ((some x48.2)).bind fun x80 => some (!decide (x79 = x80)))).bind fun x81 => cond x81 (some true) (((((some x48.1)).bind fun x76 => some (!x76.isNon))).bind fun x77 => cond x77 (((((some x10)).bind fun x71 => ((some x11)).bind fun x72 => ((some x15.1)).bind fun x73 => ((some x48.1)).bind fun x74 => t_law_is_lock x71 x72 x73 x74)).bind fun x75 => some (!x75)) (some false)))) fun x70 => (cond x70 (lP (((some false)).bind fun x250 => some (Out.rt x250))) (bP (bP (bP (bP (lP (((some (3 : Int))).bind fun x83 => rng1 x83)) fun x87 => (compP (fun a84 => (lP (some true))) (fun a84 => (bP (lP (((some x10)).bind fun x85 => some x85.1)) fun x86 => (t_law_draw x86))) x87)) fun x88 => (lP (sortS x88))) fun x89 => (lP (some x89))) fun x82 => (bP (bP (bP (lP (((some x10)).bind fun x91 => some x91.1)) fun x92 => (t_law_draw x92)) fun x93 => (bP (lP (some x82)) fun x94 => (lP (some (x93, x94))))) fun x90 => (bP (bP (bP (lP (some x48.1)) fun x127 => (bP (bP (lP (((((some x48.1)).bind fun x96 => some [x96])).bind fun x110 => some ((eV eD) x110))) fun x125 => (bP (bP (bP (lP (((some x90)).bind fun x97 => some ((eT2 eI (eV eI)) x97))) fun x98 => (bP (lP (some (2 : Int))) fun x99 => (t_law_bent 12 x98 x99))) fun x123 => (bP (lP (((((some x90)).bind fun x111 => some ((eT2 eI (eV eI)) x111))).bind fun x121 => ((((((((((some x90)).bind fun x100 => some x100.1)).bind fun x101 => ((some ([] : (List D)))).bind fun x102 => some (x101, x102))).bind fun x112 => some ((eT2 eI (eV eD)) x112))).bind fun x119 => ((((((((((some x90)).bind fun x103 => some x103.1)).bind fun x105 => ((((some x82)).bind fun x104 => some x104.reverse)).bind fun x106 => some (x105, x106))).bind fun x113 => some ((eT2 eI (eV eI)) x113))).bind fun x117 => ((((((((((((some x90)).bind fun x107 => some ((eT2 eI (eV eI)) x107))).bind fun x108 => asV x108)).bind fun x109 => some x109)).bind fun x114 => some ((eL eD) x114))).bind fun x115 => ((some ([] : List D))).bind fun x116 => some (x115 :: x116))).bind fun x118 => some (x117 :: x118))).bind fun x120 => some (x119 :: x120))).bind fun x122 => some (x121 :: x122))) fun x124 => (lP (some (x123 :: x124))))) fun x126 => (lP (some (x125 :: x126))))) fun x128 => (lP (some (x127 :: x128))))) fun x129 => (cond (Nat.ble x129.length 16777216) (lP (some x129)) (lP none))) fun x95 => (bP (bP (lP (((some x48.1)).bind fun x166 => some (!x166.isNon))) fun x167 => (cond x167 (bP (bP (lP (some x95)) fun x200 => (bP (bP (bP (lP (some x48.1)) fun x169 => (bP (lP (some (3 : Int))) fun x170 => (t_law_twice_bent x169 x170))) fun x197 => (bP (lP (((((((some x90)).bind fun x171 => some x171.1)).bind fun x175 => ((((((some x48.1)).bind fun x172 => asV x172)).bind fun x173 => ((some (1 : Int))).bind fun x174 => atT x173 x174)).bind fun x176 => some (x175, x176))).bind fun x177 => some ((eT2 eI eD) x177))) fun x198 => (bP (lP (((((((((some x48.1)).bind fun x178 => asV x178)).bind fun x179 => ((some (0 : Int))).bind fun x180 => atT x179 x180)).bind fun x194 => ((((((((((some x48.1)).bind fun x181 => asV x181)).bind fun x182 => ((some (1 : Int))).bind fun x183 => atT x182 x183)).bind fun x187 => asV x187)).bind fun x192 => ((((((((some x48.1)).bind fun x188 => asV x188)).bind fun x189 => ((some (1 : Int))).bind fun x190 => atT x189 x190)).bind fun x191 => asV x191)).bind fun x193 => extM x192 x193)).bind fun x195 => some (x194, x195))).bind fun x196 => some ((eT2 eD (eV eD)) x196))) fun x199 => (lP (some [x197, x198, x199]))))) fun x201 => (lP (extM x200 x201)))) fun x168 => (lP (some x168))) (lP ((some ()).bind fun _ => some x95)))) fun s165 => (bP (bP (bP (lP (some s165)) fun x204 => (bP (bP t_law_odd fun x203 => (lP (some [x203]))) fun x205 => (lP (extM x204 x205)))) fun x207 => (loopRP (fun a206 (s202 : Unit) => (lP (((((some a206)).bind fun x209 => reprD x209)).bind fun x208 => (((((((((some x10)).bind fun x215 => ((some x11)).bind fun x216 => ((some x15.1)).bind fun x217 => ((some a206)).bind fun x218 => t_is_lock x215 x216 x217 x218)).bind fun x219 => repr_ (faB.py x219))).bind fun x229 => ((((((some x10)).bind fun x224 => ((some x11)).bind fun x225 => ((some x15.1)).bind fun x226 => ((some a206)).bind fun x227 => t_law_is_lock x224 x225 x226 x227)).bind fun x228 => repr_ (faB.py x228))).bind fun x230 => some (!decide (x229 = x230)))).bind fun x210 => cond x210 (((some false)).bind fun x237 => some (Out.rt x237)) (((((((some a206)).bind fun x232 => reprD x232)).bind fun x233 => ((some x208)).bind fun x234 => some (!decide (x233 = x234)))).bind fun x231 => cond x231 (((some false)).bind fun x235 => some (Out.rt x235)) ((((some ()).bind fun _ => some ())).bind fun x236 => some (Out.nx x236))))))) x207 ())) fun o239 => (o239.by (fun s238 => (lP (((((((((some x10)).bind fun x243 => ((some x15.1)).bind fun x244 => some (x243, x244))).bind fun x245 => repr_ ((faT2 (faT4 faI (faV (faT2 faI faI)) faI faI) (faV faI)).py x245))).bind fun x246 => ((some x21.1)).bind fun x247 => some (!decide (x246 = x247)))).bind fun x240 => cond x240 (((some false)).bind fun x248 => some (Out.rt x248)) ((((some ()).bind fun _ => some ())).bind fun x249 => some (Out.nx x249))))) fun b => lP (some (Out.rt b)))))))))))))))))))) x9 ())) fun o254 => (o254.by (fun s253 => (lP (some true))) fun b => lP (some b)))
end K70
set_option Elab.async false
set_option linter.all false
namespace Det
def sumN : Nat → (Nat → Int) → Int
  | 0, _ => 0
  | n + 1, f => sumN n f + f n
def sg : Nat → Int
  | 0 => 1
  | n + 1 => -sg n
def skip (l r : Nat) : Nat := if r < l then r else r + 1
abbrev Mat := Nat → Nat → Int
def det : Nat → Mat → Int
  | 0, _ => 1
  | k + 1, C => sumN (k + 1) fun l => sg (l + k) * (C k l * det k fun j r => C j (skip l r))
end Det
set_option Elab.async false
set_option linter.all false
namespace Det
section
variable (A : Nat → Nat → Int)
def Comb (k : Nat) (z : Nat → Int) : Prop := ∃ c : Nat → Int, ∀ j, z j = sumN k fun l => c l * A l j
variable {A}
variable (A)
def D (k : Nat) : Int := det k fun c r => A r c
structure IsV (k i : Nat) (v : Nat → Int) : Prop where
  comb : Comb A k fun j => v j - if i < k then 0 else D A k * A i j
  zero : ∀ j < k, j ≠ i → v j = 0
  diag : i < k → v i = D A k
variable {A}
def mv (i t c : Nat) : Nat := if c < i then c else if c < i + t then c + 1 else if c = i + t then i else c
end
end Det
set_option Elab.async false
set_option linter.all false
namespace Det
section
variable (A : Nat → Nat → Int)
variable {A}
variable (n : Nat)
def slack (a : Nat → Nat → Int) (k i : Nat) : Int := sumN n (fun j => if j < k then 0 else a i j) - a i n
inductive Rch (a : Nat → Nat → Int) (k : Nat) : Nat → Prop
  | out {i : Nat} : k ≤ i → i < n → (0 < a i n ∨ 0 < slack n a k i) → Rch a k i
  | go {i j : Nat} : k ≤ i → i < n → i ≠ j → a i j < 0 → Rch a k j → Rch a k i
structure Net (a : Nat → Nat → Int) (k : Nat) : Prop where
  off : ∀ i j, k ≤ i → i < n → k ≤ j → j < n → i ≠ j → a i j ≤ 0
  one : ∀ i, k ≤ i → i < n → 0 ≤ a i n
  other : ∀ i, k ≤ i → i < n → 0 ≤ slack n a k i
  joined : ∀ i, k ≤ i → i < n → Rch n a k i
variable {n}
end
end Det
set_option Elab.async false
set_option linter.all false
set_option maxRecDepth 100000
set_option maxHeartbeats 4000000
namespace Air
open PySem PySem.Spec PyProof.Rows MS
def WayOk (n : Int) (w : Int × Int) : Prop := (0 ≤ w.1 ∧ w.1 < n) ∧ (0 ≤ w.2 ∧ w.2 < n) ∧ w.1 ≠ w.2
structure Mine where
  places : Int
  ways : List (Int × Int)
  inlet : Int
  outlet : Int
structure MineOk (M : Mine) : Prop where
  lo : 2 ≤ M.places
  hi : M.places ≤ 8
  ways : ∀ w ∈ M.ways, WayOk M.places w
  ends : WayOk M.places (M.inlet, M.outlet)
def Adj (ws : List (Int × Int)) (u v : Int) : Prop := (u, v) ∈ ws ∨ (v, u) ∈ ws
inductive Reach (ws : List (Int × Int)) (s : Int) : Int → Prop
  | start : Reach ws s s
  | step {u v : Int} : Reach ws s u → Adj ws u v → Reach ws s v
structure Found (ws : List (Int × Int)) (s n : Int) (l : List Int) : Prop where
  nd : l.Nodup
  st : s ∈ l
  rc : ∀ v ∈ l, Reach ws s v
  bd : ∀ v ∈ l, 0 ≤ v ∧ v < n
def touch (ws : List (Int × Int)) (x : Int) (i : Nat) : Bool := match ws[i]? with
  | some w => decide (w.1 = x ∨ w.2 = x)
  | none => false
def hits (ws : List (Int × Int)) (x : Int) (n : Nat) : List Int := ((List.range n).filter (touch ws x)).map fun (i : Nat) => (i : Int)
def isIn (M : Mine) (i : Nat) : Bool := !decide ((i : Int) = M.inlet ∨ (i : Int) = M.outlet)
def inner (M : Mine) : List Int := ((List.range M.places.toNat).filter (isIn M)).map fun (i : Nat) => (i : Int)
def bump (sh : List Int) (x v : Int) : List Int := sh.set x.toNat (sh.getD x.toNat 0 + v)
def shareStep (M : Mine) (ws : List Int) (x : Int) (sh : List Int) (w : Int) : List Int := match M.ways[w.toNat]? with
  | some p => bump (bump sh x (ws.getD w.toNat 0)) (if x = p.1 then p.2 else p.1) (-(ws.getD w.toNat 0))
  | none => sh
def shares (M : Mine) (ws : List Int) (x : Int) : List Int := (hits M.ways x M.ways.length).foldl (shareStep M ws x) (List.replicate M.places.toNat 0)
def cleared (row lead : List Int) (k : Nat) (before : Int) : List Int := List.zipWith (fun here there => (lead.getD k 0 * here - row.getD k 0 * there) / before) row lead
def wd (i : Int) : Prop := i.natAbs < 2 ^ 4000
def Wds (l : List Int) : Prop := ∀ z ∈ l, wd z
def stepRows (R : List (List Int)) (k : Nat) (before : Int) : List (List Int) := R.mapIdx fun i row => if i = k then row else cleared row (R.getD k []) k before
def turnR (st : List (List Int) × Int) (k : Nat) : List (List Int) × Int := (stepRows st.1 k st.2, (st.1.getD k []).getD k 0)
def runR (R : List (List Int)) (k : Nat) : List (List Int) × Int := (List.range k).foldl turnR (R, 1)
structure Fine (n : Nat) (st : List (List Int) × Int) : Prop where
  pos : 0 < st.2
  wide : wd st.2
  rows : ∀ row ∈ st.1, row.length = n + 1 ∧ Wds row
def gdiv (ls : List Int) : Int := ls.foldl (fun d l => ((Nat.gcd d.natAbs l.natAbs : Nat) : Int)) 0
def rowOf (M : Mine) (ws : List Int) (x : Int) : List Int := ((inner M).map fun z => (shares M ws x).getD z.toNat 0) ++ [-((shares M ws x).getD M.inlet.toNat 0)]
def rowsOf (M : Mine) (ws : List Int) : List (List Int) := (inner M).map (rowOf M ws)
def fin (M : Mine) (ws : List Int) : List (List Int) × Int := runR (rowsOf M ws) (rowsOf M ws).length
def solved (M : Mine) (ws : List Int) : List Int := (fin M ws).1.map fun row => row.getD (rowsOf M ws).length 0
def laid (M : Mine) (ws : List Int) : List Int := ((inner M).zip (solved M ws)).foldl (fun lv p => lv.set p.1.toNat p.2) ((List.replicate M.places.toNat 0).set M.inlet.toNat (fin M ws).2)
structure LevOk (M : Mine) (ws : List Int) : Prop where
  len : ws.length = M.ways.length
  run : ∀ k ≤ (rowsOf M ws).length, Fine (rowsOf M ws).length (runR (rowsOf M ws) k)
  pos : 0 < gdiv (laid M ws)
  wide : wd (gdiv (laid M ws))
def far (M : Mine) (x w : Int) : Int := match M.ways[w.toNat]? with
  | some p => if x = p.1 then p.2 else p.1
  | none => 0
def wk (k : Nat) (i : Int) : Prop := i.natAbs < 2 ^ k
structure At (M : Mine) (x w : Int) : Prop where
  ex : ∃ (i : Nat) (p : Int × Int), w = (i : Int) ∧ M.ways[i]? = some p ∧ (p.1 = x ∨ p.2 = x)
structure WsOk (M : Mine) (ws : List Int) : Prop where
  len : ws.length = M.ways.length
  few : M.ways.length ≤ 12
  pos : ∀ v ∈ ws, 1 ≤ v ∧ v < 2 ^ 27
section
variable {M : Mine} {ws : List Int} {x z : Int}
end
section
variable {M : Mine} {ws : List Int}
def inn (M : Mine) (i : Nat) : Int := (inner M).getD i 0
end
section
variable {M : Mine} {ws : List Int}
end
section
variable {M : Mine} {ws : List Int} {t : Int}
end
def way (M : Mine) (i : Nat) : Int × Int := M.ways.getD i (0, 0)
section
variable {M : Mine} {ws : List Int}
end
end Air
set_option Elab.async false
set_option linter.all false
set_option maxRecDepth 100000
set_option maxHeartbeats 4000000
namespace K70
open PySem PySem.Spec PyProof.Rows L2 MS TM K14 K74
local macro_rules | `(tactic| walk_at "st") => `(tactic| first
  | with_reducible refine wp_b ?_ | with_reducible refine wp_l ?_ | with_reducible refine wo_b ?_ | with_reducible refine wo_some ?_)
abbrev mk (M : Mi) : Air.Mine := ⟨M.1, M.2.1, M.2.2.1, M.2.2.2⟩
end K70
set_option Elab.async false
set_option linter.all false
set_option maxRecDepth 100000
set_option maxHeartbeats 4000000
namespace Air
open PySem PySem.Spec PyProof.Rows MS
variable {M : Mine} {ws : List Int}
end Air
set_option Elab.async false
set_option linter.all false
set_option maxRecDepth 100000
set_option maxHeartbeats 400000
namespace K70
open PySem PySem.Spec PyProof.Rows L2 MS TM K14 K74
local macro_rules | `(tactic| walk_at "st") => `(tactic| first
  | with_reducible refine wp_b ?_ | with_reducible refine wp_l ?_ | with_reducible refine wo_b ?_ | with_reducible refine wo_some ?_)
def nearL (M : Mi) (x : Int) : List Int := sortU ((((enumI M.2.1).filter fun a => isAt x a.2)).map fun a => far x a.2)
structure Rch (M : Mi) (st : List Int) (s : Int × List Int) : Prop where
  sn : Sn M s.2
  lo : 0 ≤ s.1
  hi : s.1 ≤ s.2.length
  sta : ∀ x ∈ st, x ∈ s.2
  rc : ∀ x ∈ s.2, ∃ y ∈ st, Reach M.2.1 y x
  cl : ∀ (i : Nat) (x : Int), (i : Int) < s.1 → s.2[i]? = some x → ∀ z ∈ nearL M x, z ∈ s.2
structure Bhl (M : Mi) (others : List Int) (wy : Int × Int) (g : Int) (S : List Int) : Prop where
  asc : S.Pairwise (· < ·)
  bd : ∀ x ∈ S, 0 ≤ x ∧ x < M.1
  mem : ∀ x, x ∈ S ↔ Bh M others wy g x
end K70
set_option Elab.async false
set_option linter.all false
set_option maxRecDepth 100000
set_option maxHeartbeats 1000000
namespace K70
open PySem PySem.Spec PyProof.Rows L2 MS TM K14 K74
local macro_rules | `(tactic| walk_at "st") => `(tactic| first
  | with_reducible refine wp_b ?_ | with_reducible refine wp_l ?_ | with_reducible refine wo_b ?_ | with_reducible refine wo_some ?_)
section
variable {α β : Type}
theorem wp_compGoC {c : α → PM Bool} {f : α → PM β} (J : Pn → Prop) (R : β → Prop) {Q : List β → Pn → Prop} : ∀ {xs : List α} {P : Pn}, J P → (∀ (x : α) (P : Pn), x ∈ xs → J P → wp (c x) P fun k P' => J P' ∧ (k = true → wp (f x) P' fun y P'' => R y ∧ J P'')) → (∀ ys P, ys.length ≤ xs.length → (∀ y ∈ ys, R y) → J P → Q ys P) → wp (compGoP c f xs) P Q
  | [], P, h0, _, hQ => wp_l (wo_some (hQ [] P (Nat.le_refl _) (fun _ h => nomatch h) h0))
  | x :: xs, P, h0, hs, hQ => by
    refine wp_b ((hs x P (List.mem_cons_self ..) h0).mono fun k P1 h1 => ?_)
    have hs' := fun (z : α) (P : Pn) (hz : z ∈ xs) => hs z P (List.mem_cons_of_mem _ hz)
    cases k with
    | false => exact wp_compGoC J R h1.1 hs' fun ys P hl hR hJ => hQ ys P (Nat.le_succ_of_le hl) hR hJ
    | true =>
      rw [cond_true]
      refine wp_b ((h1.2 rfl).mono fun y P2 h2 => ?_)
      refine wp_b (wp_compGoC J R h2.2 hs' fun ys P3 hl hR hJ => ?_)
      refine wp_l (wo_some (hQ _ P3 (Nat.succ_le_succ hl) (fun z hz => ?_) hJ))
      rcases List.mem_cons.mp hz with e | h
      · rw [e]; exact h2.1
      · exact hR z h
theorem wp_compC {c : α → PM Bool} {f : α → PM β} (J : Pn → Prop) (R : β → Prop) {Q : List β → Pn → Prop} {xs : List α} {P : Pn} (hz : xs.length ≤ 16777216) (h0 : J P) (hs : ∀ (x : α) (P : Pn), x ∈ xs → J P → wp (c x) P fun k P' => J P' ∧ (k = true → wp (f x) P' fun y P'' => R y ∧ J P'')) (hQ : ∀ ys P, ys.length ≤ xs.length → (∀ y ∈ ys, R y) → J P → Q ys P) : wp (compP c f xs) P Q := by
  unfold compP
  rw [Nat.ble_eq_true_of_le hz]
  exact wp_compGoC J R h0 hs hQ
end
end K70
set_option Elab.async false
set_option linter.all false
set_option maxRecDepth 100000
set_option maxHeartbeats 4000000
namespace K16
open PySem PySem.Spec PyProof.Rows L2 MS TM
local macro_rules | `(tactic| walk_at "st") => `(tactic| first
  | with_reducible refine wp_b ?_ | with_reducible refine wp_l ?_ | with_reducible refine wo_b ?_ | with_reducible refine wo_some ?_)
theorem ne_self {α : Type} [DecidableEq α] {a : α} (h : (!decide (a = a)) = true) : False := by
  rw [decide_eq_true rfl] at h
  cases h
def innL (m : Mn) : List Int := (rangeI 0 m.1.toNat).filter fun x => !decide (x ∈ [m.2.2.1, m.2.2.2])
theorem inn_eq {m : Mn} (ok : MOk m) : t_law_inner m = some (innL m) := by
  have h1 := ok.lo
  have h2 := ok.hi
  refine eq_wo ?_
  unfold t_law_inner
  repeat walk_at "st"
  refine wo_rng1 (by omega) (by omega) ?_
  refine wo_eq (compM_eq (fun x => !decide (x ∈ [m.2.2.1, m.2.2.2])) id (by rw [rangeI_len]; omega) (fun _ _ => rfl) fun _ _ _ => rfl) ?_
  rw [List.map_id]
  rfl
theorem inn_len {m : Mn} (ok : MOk m) : (innL m).length ≤ 8 := by
  have h2 := ok.hi
  exact Nat.le_trans (List.length_filter_le ..) (by rw [rangeI_len]; omega)
theorem inn_mem {m : Mn} {x : Int} (h : x ∈ innL m) : 0 ≤ x ∧ x < m.1 := by
  have := rangeI_mem (List.mem_filter.mp h).1
  omega
def Drn (m : Mn) (r : D) : Prop := ∃ d, r = eDeed d ∧ Dok (innL m) d ∧ An 1000 1000 2 r
theorem strB : An 1000 42 0 (.str (Str.ofString "beside")) := ⟨rfl, by decide +kernel, Nat.le_refl _⟩
theorem strC : An 1000 42 0 (.str (Str.ofString "behind")) := ⟨rfl, by decide +kernel, Nat.le_refl _⟩
theorem strD : An 1000 42 0 (.str (Str.ofString "hung")) := ⟨rfl, by decide +kernel, Nat.le_refl _⟩
theorem drn_be {m : Mn} {i j : Int} (h0 : 0 ≤ i) (h1 : i < j) (h2 : j ≤ 900) : Drn m (eDeed (.be i j)) := by
  refine ⟨_, rfl, ⟨h0, h1⟩, (An.tup (n := 3) (k := 42) (m := 0) (fun d hd => ?_) (Nat.le_refl _)).mono (Nat.le_refl _) (by decide) (by decide)⟩
  simp only [List.mem_cons, List.not_mem_nil, or_false] at hd
  rcases hd with rfl | rfl | rfl
  · exact strB
  · exact An.int (by omega)
  · exact An.int (by omega)
theorem drn_bh {m : Mn} {x : Int} (ok : MOk m) (h : x ∈ innL m) : Drn m (eDeed (.bh x)) := by
  have h1 := inn_mem h
  have h2 := ok.hi
  refine ⟨_, rfl, h, (An.tup (n := 2) (k := 42) (m := 0) (fun d hd => ?_) (Nat.le_refl _)).mono (Nat.le_refl _) (by decide) (by decide)⟩
  simp only [List.mem_cons, List.not_mem_nil, or_false] at hd
  rcases hd with rfl | rfl
  · exact strC
  · exact An.int (by omega)
theorem drn_hu {m : Mn} {x : Int} {s : List Int} (ok : MOk m) (hx : 0 ≤ x ∧ x < m.1) (hn : s ≠ []) (hs : ∀ y ∈ s, y ∈ innL m) (hxs : x ∉ s) (hl : s.length ≤ 8) : Drn m (eDeed (.hu x s)) := by
  have h2 := ok.hi
  refine ⟨_, rfl, ⟨hn, hs, hxs, by omega⟩, ?_⟩
  have as : An 1000 400 1 (.tup (s.map D.int)) := (An.tup (n := 8) (k := 42) (m := 0) (fun d hd => by
    obtain ⟨y, hy, rfl⟩ := List.mem_map.mp hd
    have := inn_mem (hs y hy)
    exact An.int (by omega)) (by rw [List.length_map]; exact hl)).mono (Nat.le_refl _) (by decide) (by decide)
  refine ⟨anyA_mem.mpr fun d hd => ?_, ?_, Nat.succ_le_succ (dA_le.mpr fun d hd => ?_)⟩
  · simp only [List.mem_cons, List.not_mem_nil, or_false] at hd
    rcases hd with rfl | rfl | rfl
    · rfl
    · exact decide_eq_true (by omega)
    · exact as.any
  · have h1 := as.wt
    have h3 := strD.wt
    show (wD (.str (Str.ofString "hung")) + 2 + (42 + 2 + (wD (.tup (s.map D.int)) + 2 + 0))) + 3 ≤ _
    omega
  · simp only [List.mem_cons, List.not_mem_nil, or_false] at hd
    rcases hd with rfl | rfl | rfl
    · exact Nat.zero_le _
    · exact Nat.zero_le _
    · exact as.dp
theorem some_ok {P : Pn} {m : Mn} {n : Int} (g : Good P) (ok : MOk m) (hn : 1 ≤ n) (hn2 : n ≤ 500) : wp (t_law_some_reduction m n) P fun r P' => Drn m r ∧ Good P' := by
  have h1 := ok.lo
  have h2 := ok.hi
  have hil := inn_len ok
  unfold t_law_some_reduction
  repeat walk_at "st"
  refine (draw_ok g (by decide) (by decide)).mono fun o P1 ho => ?_
  obtain ⟨_, _, g1⟩ := ho
  repeat walk_at "st"
  refine wo_eq (a := rangeI 0 m.1.toNat) (by
    have e : r62 m.1 = true := by
      unfold r62
      rw [decide_eq_true (by omega), decide_eq_true (by omega)]
      rfl
    unfold lrg
    rw [Nat.ble_eq_true_of_le (by omega), e]
    rfl) ?_
  repeat walk_at "st"
  refine wp_if (fun _ => ?_) (fun _ => ?_)
  · repeat walk_at "st"
    refine (draw_ok g1 hn (by omega)).mono fun i P2 hi => ?_
    obtain ⟨i0, i1, g2⟩ := hi
    repeat walk_at "st"
    refine (draw_ok g2 (by decide) (by decide)).mono fun k P3 hk => ?_
    obtain ⟨k0, k1, g3⟩ := hk
    repeat walk_at "st"
    exact ⟨drn_be (i := i) (j := i + 1 + k) i0 (by omega) (by omega), g3⟩
  · repeat walk_at "st"
    refine wo_eq (inn_eq ok) ?_
    repeat walk_at "st"
    refine wo_eq (a := decide (o = 1) && !decide (innL m = ([] : List Int))) (by
      show cond (decide (o = 1)) _ _ = _
      cases decide (o = 1) <;> rfl) ?_
    refine wp_if (fun hc => ?_) (fun _ => ?_)
    · have hne : innL m ≠ [] := by
        rw [Bool.and_eq_true, Bool.not_eq_true', decide_eq_false_iff_not] at hc
        exact hc.2
      repeat walk_at "st"
      refine (one_of_ok g1 hne (by omega)).mono fun x P2 hx => ?_
      repeat walk_at "st"
      exact ⟨drn_bh ok hx.1, hx.2⟩
    · repeat walk_at "st"
      refine K70.wp_compC Good (fun x => x ∈ innL m) (by omega) g1 (fun x P hx g => ?_) fun s P2 hsl hs g2 => ?_
      · repeat walk_at "st"
        refine (draw_ok g (by decide) (by decide)).mono fun b P' hb => ?_
        repeat walk_at "st"
        refine ⟨hb.2.2, fun _ => ?_⟩
        repeat walk_at "st"
        exact ⟨hx, hb.2.2⟩
      · repeat walk_at "st"
        refine wo_eq (compM_eq (fun y => !decide (y ∈ s)) id (by rw [rangeI_len]; omega) (fun _ _ => rfl) fun _ _ _ => rfl) ?_
        rw [List.map_id]
        have hin : m.2.2.1 ∈ (rangeI 0 m.1.toNat).filter fun y => !decide (y ∈ s) := by
          obtain ⟨e1, e2, _⟩ := ok.ends
          have e1 : 0 ≤ m.2.2.1 := e1
          have e2 : m.2.2.1 < m.1 := e2
          refine List.mem_filter.mpr ⟨?_, ?_⟩
          · unfold rangeI
            exact List.mem_map.mpr ⟨m.2.2.1.toNat, List.mem_range.mpr (by omega), by omega⟩
          · rw [decide_eq_false fun z => ?_]
            · rfl
            · have := (List.mem_filter.mp (hs _ z)).2
              simp at this
        refine (one_of_ok g2 (List.ne_nil_of_mem hin) (Nat.lt_of_le_of_lt (List.length_filter_le ..) (by rw [rangeI_len]; omega))).mono fun x P3 hx => ?_
        obtain ⟨hx, g3⟩ := hx
        obtain ⟨x1, x2⟩ := List.mem_filter.mp hx
        have x3 := rangeI_mem x1
        have x4 : x ∉ s := by
          rw [Bool.not_eq_true', decide_eq_false_iff_not] at x2
          exact x2
        repeat walk_at "st"
        refine wo_if (fun hc => ?_) (fun _ => ?_)
        · have hne : s ≠ [] := by
            rw [Bool.not_eq_true', decide_eq_false_iff_not] at hc
            exact hc
          have hxm : 0 ≤ x ∧ x < m.1 := ⟨by omega, by omega⟩
          have hs8 : s.length ≤ 8 := by omega
          repeat walk_at "st"
          exact ⟨drn_hu ok hxm hne hs x4 hs8, g3⟩
        · repeat walk_at "st"
          exact ⟨drn_be (i := 0) (j := 1) (by decide) (by decide) (by decide), g3⟩
theorem drn_all {m : Mn} {L : List D} (h : ∀ r ∈ L, Drn m r) : ∃ ds : List Deed, L = ds.map eDeed ∧ ∀ d ∈ ds, Dok (innL m) d := by
  induction L with
  | nil => exact ⟨[], rfl, fun _ h => nomatch h⟩
  | cons r L ih =>
    obtain ⟨ds, e, hd⟩ := ih fun x hx => h x (List.mem_cons_of_mem _ hx)
    obtain ⟨d, e1, h1, _⟩ := h r (List.mem_cons_self ..)
    refine ⟨d :: ds, by rw [List.map_cons, ← e, ← e1], fun x hx => ?_⟩
    rcases List.mem_cons.mp hx with rfl | hx
    · exact h1
    · exact hd x hx
theorem dok_ok {inn : List Int} {d : Deed} (h : Dok inn d) : DeedOk d := by
  cases d with
  | be i j => exact ⟨h.1, by have := h.1; have := h.2; omega⟩
  | bh x => trivial
  | hu x s => exact Nat.le_trans h.2.2.2 (by decide)
theorem same_eq {m : Mn} {L : List D} (ok : MOk m) (hz : m.2.1.length ≤ 8) (hl : L.length ≤ 41) (h : ∀ r ∈ L, Drn m r) : ∃ o : Option Int, t_can_reduce m L = some o ∧ t_law_reduced_due m L = some o ∧ ∀ n, o = some n → n.natAbs ≤ 41 := by
  obtain ⟨ds, rfl, hd⟩ := drn_all h
  rw [List.length_map] at hl
  refine ⟨_, can_reduce_eq (by omega) fun d hx => dok_ok (hd d hx), reduced_due_eq (inn_eq ok) (by omega) hd, fun n e => ?_⟩
  have hk : ∀ (ds : List Deed) (k : Nat) (l : List (Option W2)) (a : Nat), runP k l ds = .inl a → a ≤ k + ds.length := by
    intro ds
    induction ds with
    | nil => intro k l a e; cases e
    | cons d ds ih =>
      intro k l a e
      unfold runP at e
      split at e
      · have := ih _ _ _ e
        rw [List.length_cons]
        omega
      · cases e
        omega
  unfold endP at e
  split at e
  · rename_i a ha
    have := hk _ _ _ _ ha
    cases e
    omega
  · split at e
    · cases e
    · cases e
      omega
theorem row_ok {P : Pn} {m : Mn} (g : Good P) (ok : MOk m) (hz : m.2.1.length ≤ 8) (hne : m.2.1 ≠ []) : wp (t_law_row m) P fun L P' => (L.length ≤ 40 ∧ ∀ r ∈ L, Drn m r) ∧ Good P' := by
  have hpos : 0 < m.2.1.length := List.length_pos_iff.mpr hne
  unfold t_law_row
  repeat walk_at "st"
  refine wo_rng1 (by decide) (by decide) ?_
  refine wp_loop (i := 0) (fun i (s : List D × Int) P => (s.1.length ≤ i ∧ (∀ r ∈ s.1, Drn m r)) ∧ (1 ≤ s.2 ∧ s.2 ≤ 8 + i) ∧ Good P) ⟨⟨Nat.le_refl _, fun _ h => nomatch h⟩, ⟨by show (1 : Int) ≤ m.2.1.length; omega, by show (m.2.1.length : Int) ≤ 8 + (0 : Nat); omega⟩, g⟩ (fun j lap s P hx hI => ?_) fun s P hI => ?_
  · obtain ⟨⟨sl, sd⟩, ⟨n1, n2⟩, g⟩ := hI
    have hj : j < 40 := by
      have := (List.getElem?_eq_some_iff.mp hx).1
      rw [rangeI_len] at this
      exact this
    repeat walk_at "st"
    refine (some_ok g ok n1 (by omega)).mono fun r P1 hr => ?_
    obtain ⟨hr, g1⟩ := hr
    have hall : ∀ x ∈ s.1 ++ [r], Drn m x := fun x hx => by
      rcases List.mem_append.mp hx with hx | hx
      · exact sd x hx
      · rw [List.mem_singleton.mp hx]; exact hr
    obtain ⟨o, _, ho, _⟩ := same_eq (L := s.1 ++ [r]) ok hz (by rw [List.length_append]; show s.1.length + 1 ≤ 41; omega) hall
    repeat walk_at "st"
    refine wo_eq (extM_eq (by show s.1.length + 1 ≤ _; omega)) ?_
    repeat walk_at "st"
    refine wo_eq ho ?_
    repeat walk_at "st"
    refine wo_if (fun _ => ?_) (fun _ => ?_)
    · repeat walk_at "st"
      refine wo_push (by omega) ?_
      repeat walk_at "st"
      obtain ⟨d, rfl, _, _⟩ := hr
      have he : ∃ xs y b, asV (eDeed d) = some xs ∧ atT xs 0 = some y ∧ (eqS y (Str.ofString "hung")).map not = some b := by
        cases d with
        | be i j => exact ⟨_, _, true, rfl, rfl, by show (eqS (.str (Str.ofString "beside")) (Str.ofString "hung")).map not = _; decide +kernel⟩
        | bh x => exact ⟨_, _, true, rfl, rfl, by show (eqS (.str (Str.ofString "behind")) (Str.ofString "hung")).map not = _; decide +kernel⟩
        | hu x s => exact ⟨_, _, false, rfl, rfl, by show (eqS (.str (Str.ofString "hung")) (Str.ofString "hung")).map not = _; decide +kernel⟩
      obtain ⟨xs, y, b, b1, b2, b3⟩ := he
      refine wo_eq b1 ?_
      repeat walk_at "st"
      refine wo_eq b2 ?_
      repeat walk_at "st"
      refine wo_eq b3 ?_
      repeat walk_at "st"
      refine ⟨⟨by rw [List.length_append]; show s.1.length + 1 ≤ _; omega, hall⟩, ⟨?_, ?_⟩, g1⟩
      · show 1 ≤ s.2 + (if b then 1 else 0)
        split <;> omega
      · show s.2 + (if b then 1 else 0) ≤ _
        split <;> omega
    · repeat walk_at "st"
      exact ⟨⟨Nat.le_succ_of_le sl, sd⟩, ⟨n1, by show s.2 ≤ _; omega⟩, g1⟩
  · obtain ⟨⟨sl, sd⟩, _, g⟩ := hI
    rw [rangeI_len] at sl
    repeat walk_at "st"
    exact ⟨⟨sl, sd⟩, g⟩
theorem mine_An {M : Mn} (ok : MOk M) (hz : M.2.1.length ≤ 12) : An 1000 19700 3 (eMn M) := by
  obtain ⟨e1, e2, e3, e4, _⟩ := ok.ends
  have h1 := ok.lo
  have h2 := ok.hi
  have aw : ∀ p ∈ M.2.1, An 1000 400 1 (eW2 p) := fun p hp => by
    obtain ⟨b1, b2, b3, b4, _⟩ := ok.ways p hp
    refine (An.tup (n := 2) (k := 42) (m := 0) (fun d hd => ?_) (Nat.le_refl _)).mono (Nat.le_refl _) (by decide) (Nat.le_refl _)
    simp only [List.mem_cons, List.not_mem_nil, or_false] at hd
    rcases hd with rfl | rfl
    · exact An.int (by omega)
    · exact An.int (by omega)
  have aws : An 1000 4900 2 (eV eW2 M.2.1) := (An.tup (n := 12) (fun d hd => by
    obtain ⟨p, hp, rfl⟩ := List.mem_map.mp hd
    exact aw p hp) (by rw [List.length_map]; omega)).mono (Nat.le_refl _) (by decide) (Nat.le_refl _)
  exact (An.tup (n := 4) (k := 4900) (m := 2) (fun d hd => by
    simp only [List.mem_cons, List.not_mem_nil, or_false] at hd
    rcases hd with rfl | rfl | rfl | rfl
    · exact (An.int (by omega)).mono (Nat.le_refl _) (by decide) (by decide)
    · exact aws
    · exact (An.int (by have : M.2.2.1 < M.1 := e2; have : 0 ≤ M.2.2.1 := e1; omega)).mono (Nat.le_refl _) (by decide) (by decide)
    · exact (An.int (by have : M.2.2.2 < M.1 := e4; have : 0 ≤ M.2.2.2 := e3; omega)).mono (Nat.le_refl _) (by decide) (by decide)) (Nat.le_refl _)).mono (Nat.le_refl _) (by decide) (Nat.le_refl _)
theorem both_An {M : Mn} {L : List D} (ok : MOk M) (hz : M.2.1.length ≤ 12) (hl : L.length ≤ 41) (h : ∀ r ∈ L, Drn M r) : An 1000 100000 4 ((eT2 (eT4 eI (eV (eT2 eI eI)) eI eI) (eV eD)) (M, L)) := by
  have am := mine_An ok hz
  have al : An 1000 42000 3 (eV eD L) := (An.tup (n := 41) (k := 1000) (m := 2) (fun d hd => by
    obtain ⟨p, hp, rfl⟩ := List.mem_map.mp hd
    obtain ⟨_, _, _, a⟩ := h p hp
    exact a) (by rw [List.length_map]; exact hl)).mono (Nat.le_refl _) (by decide) (Nat.le_refl _)
  refine ⟨anyA_mem.mpr fun d hd => ?_, ?_, Nat.succ_le_succ (dA_le.mpr fun d hd => ?_)⟩
  · simp only [List.mem_cons, List.not_mem_nil, or_false] at hd
    rcases hd with rfl | rfl
    · exact am.any
    · exact al.any
  · have h1 := am.wt
    have h3 := al.wt
    show (wD (eMn M) + 2 + (wD (eV eD L) + 2 + 0)) + 3 ≤ _
    omega
  · simp only [List.mem_cons, List.not_mem_nil, or_false] at hd
    rcases hd with rfl | rfl
    · exact am.dp
    · exact al.dp
theorem repr_oI {o : Option Int} (h : ∀ n, o = some n → n.natAbs ≤ 41) : ∃ x, repr_ ((faO faI (fun _ => .inr (.inr ⟨_, rfl⟩))).py o) = some x := by
  cases o with
  | none =>
    obtain ⟨x, e, _⟩ := repr_ok (p := .none) (n := 42) (Q := fun _ => True) ⟨rfl, by decide +kernel⟩ (by decide) (by decide) trivial
    exact ⟨x, e⟩
  | some n =>
    obtain ⟨x, e, _⟩ := repr_ok (p := .int n) (n := 42) (Q := fun _ => True) (Sz.int (by have := h n rfl; omega)) (show (PyData.int n).depth ≤ 64 from Nat.zero_le _) (by decide) trivial
    exact ⟨x, e⟩
theorem loopR_unit {α : Type} {f : α → Unit → Option (Out Unit Bool)} : ∀ {xs : List α}, (∀ x ∈ xs, f x () = some (.nx ())) → loopR f xs () = some (.nx ())
  | [], _ => rfl
  | x :: xs, h => by
    unfold loopR
    rw [h x (List.mem_cons_self ..)]
    exact loopR_unit fun y hy => h y (List.mem_cons_of_mem _ hy)
theorem by_nx {σ α : Type} {s : σ} {f : σ → PM α} {g : Bool → PM α} : (Out.nx s : Out σ Bool).by f g = f s := rfl
theorem law_true (ns : List Int) : ∃ a P', t_law ns (penOf ns) = some (a, P') ∧ a = true := by
  show wp (t_law ns) (penOf ns) fun a _ => a = true
  unfold t_law
  repeat walk_at "st"
  refine wo_rng1 (by split <;> split <;> omega) (by split <;> split <;> omega) ?_
  refine wp.mono (Q := fun o P' => o = .nx ()) ?_ fun o P' ho => ?_
  · refine wp_loopR (i := 0) (fun _ _ P => Good P) (fun _ _ => False) (good_pen ns) (fun j lap s P hx g => ?_) (fun s P g => rfl) (fun _ _ h => h.elim)
    repeat walk_at "st"
    refine (draw_ok g (by decide) (by decide)).mono fun d P1 hd => ?_
    obtain ⟨d0, d1, g1⟩ := hd
    repeat walk_at "st"
    refine (mine_ok (most := 2 + d) (many := 8) g1 (by omega) (by omega) (by decide) (by decide)).mono fun M P2 hM => ?_
    obtain ⟨g2, ok, tre, hw, _⟩ := hM
    repeat walk_at "st"
    refine (draw_ok g2 (by decide) (by decide)).mono fun d2 P3 hd2 => ?_
    obtain ⟨_, _, g3⟩ := hd2
    repeat walk_at "st"
    refine wp.mono (Q := fun (m : Mn) P' => (MOk m ∧ m.2.1.length ≤ 8) ∧ Good P') ?_ fun m P4 hm => ?_
    · refine wp_if (fun _ => ?_) (fun _ => ?_)
      · repeat walk_at "st"
        refine (draw_ok g3 (by decide) (by decide)).mono fun k P4 hk => ?_
        obtain ⟨_, _, g4⟩ := hk
        repeat walk_at "st"
        have okc : MOk (M.1, cutT M.2.1 none (some k), M.2.2.1, M.2.2.2) := ⟨ok.lo, ok.hi, fun w hw => ok.ways w (mem_cut w hw), ok.ends⟩
        refine (loose_ok g4 okc).mono fun M' P5 h5 => ?_
        obtain ⟨g5, h5⟩ := h5
        repeat walk_at "st"
        rcases h5 with rfl | ⟨h5, _, h6⟩
        · exact ⟨⟨okc, Nat.le_trans cutT_len (by omega)⟩, g5⟩
        · exact ⟨⟨h5, by omega⟩, g5⟩
      · repeat walk_at "st"
        exact ⟨⟨ok, by omega⟩, g3⟩
    obtain ⟨⟨okm, hz⟩, g4⟩ := hm
    repeat walk_at "st"
    refine wp.mono (Q := fun (L : List D) P' => (L.length ≤ 40 ∧ ∀ r ∈ L, Drn m r) ∧ Good P') ?_ fun L P5 hL => ?_
    · refine wp_if (fun hc => ?_) (fun _ => ?_)
      · have hne : m.2.1 ≠ [] := by
          rw [Bool.not_eq_true', decide_eq_false_iff_not] at hc
          exact hc
        repeat walk_at "st"
        exact row_ok g4 okm hz hne
      · repeat walk_at "st"
        exact ⟨⟨by decide, fun _ h => nomatch h⟩, g4⟩
    obtain ⟨⟨hL, hD⟩, g5⟩ := hL
    repeat walk_at "st"
    refine (draw_ok g5 (by omega) (by omega)).mono fun at_ P6 ha => ?_
    obtain ⟨a0, a1, g6⟩ := ha
    repeat walk_at "st"
    refine (some_ok g6 okm (by decide) (by decide)).mono fun odd P7 hodd => ?_
    obtain ⟨hodd, g7⟩ := hodd
    obtain ⟨k, rfl⟩ : ∃ k : Nat, at_ = k := ⟨at_.toNat, by omega⟩
    have hk : k ≤ L.length := by omega
    repeat walk_at "st"
    rw [cut_to]
    refine wo_eq (extM_eq (by rw [List.length_take]; show _ + 1 ≤ _; omega)) ?_
    repeat walk_at "st"
    rw [cut_from hk]
    refine wo_eq (extM_eq (by rw [List.length_append, List.length_take, List.length_drop]; show _ + 1 + _ ≤ _; omega)) ?_
    repeat walk_at "st"
    have six : ∀ r ∈ [L, cutT L none (some (-1)), cutT L (some 1) none, L.take k ++ [odd] ++ L.drop k, L.reverse, []], r.length ≤ 41 ∧ ∀ x ∈ r, Drn m x := by
      intro r hr
      simp only [List.mem_cons, List.not_mem_nil, or_false] at hr
      rcases hr with rfl | rfl | rfl | rfl | rfl | rfl
      · exact ⟨by omega, hD⟩
      · exact ⟨Nat.le_trans cutT_len (by omega), fun x hx => hD x (mem_cut x hx)⟩
      · exact ⟨Nat.le_trans cutT_len (by omega), fun x hx => hD x (mem_cut x hx)⟩
      · refine ⟨by rw [List.length_append, List.length_append, List.length_take, List.length_drop]; show _ + 1 + _ ≤ _; omega, fun x hx => ?_⟩
        rcases List.mem_append.mp hx with hx | hx
        · rcases List.mem_append.mp hx with hx | hx
          · exact hD x (List.mem_of_mem_take hx)
          · rw [List.mem_singleton.mp hx]; exact hodd
        · exact hD x (List.mem_of_mem_drop hx)
      · exact ⟨by rw [List.length_reverse]; omega, fun x hx => hD x (List.mem_reverse.mp hx)⟩
      · exact ⟨by decide, fun _ h => nomatch h⟩
    refine wo_eq (loopR_unit fun r hr => eq_wo ?_) ?_
    · obtain ⟨h1, h2⟩ := six r hr
      obtain ⟨o, o1, o2, o3⟩ := same_eq okm hz h1 h2
      have hb := reprD_eq (both_An okm (by omega) h1 h2) (by decide) (by decide) (by decide)
      obtain ⟨x, hx⟩ := repr_oI o3
      repeat walk_at "st"
      refine wo_eq hb ?_
      repeat walk_at "st"
      refine wo_eq o1 ?_
      refine wo_eq hx ?_
      repeat walk_at "st"
      refine wo_eq o2 ?_
      refine wo_eq hx ?_
      repeat walk_at "st"
      refine wo_if (fun h => (ne_self h).elim) (fun _ => ?_)
      repeat walk_at "st"
      refine wo_eq hb ?_
      repeat walk_at "st"
      refine wo_if (fun h => (ne_self h).elim) (fun _ => ?_)
      repeat walk_at "st"
      rfl
    · exact wo_some g7
  · subst ho
    rw [by_nx]
    exact wp_l (wo_some rfl)
theorem law_ok : LawOk 63 F_law := fun ns hn => by
  obtain ⟨a, P', e, h⟩ := law_true ns
  subst h
  exact s_law ns true P' e
end K16
set_option Elab.async false
set_option linter.all false
set_option maxRecDepth 100000
set_option maxHeartbeats 4000000
namespace MS
open PySem PySem.Spec PyProof.Rows L2
def At (K : PySem.W.Frag) (nm : Str) (st : Stmt) (e : Addr) : Prop := PySem.W.nsIn K mainGlobals nm = some (some (.ref e)) ∧ ∃ fd, Fun K nm nm st e fd
theorem at_mk {K : PySem.W.Frag} {nm : Str} {st : Stmt} {e : Addr} {oc kV doc pm cdv ct : Value} {od an : Option Addr} {osl : Array (Option Value)} (h1 : PySem.W.nsIn K mainGlobals nm = some (some (.ref e)))
    (h2 : K.lookup e = some ⟨oc, od, .func (PySem.W.fnOf nm nm (defArgs st) (defBody st) (defScope st) .none kV doc pm an cdv ct), osl⟩) (h3 : PySem.W.codeIn K cdv nm = true) (h4 : PySem.W.keepIn K (.ref e) = true) : At K nm st e :=
  ⟨h1, _, fun_mk h2 h3 h4⟩
def Bn (K : PySem.W.Frag) (mg : Str → Option Value) (nm : Str) (st : Stmt) (ps : List Str) (e : Addr) (Q : FuncData → Prop) : Prop :=
  ∃ fd, Fun K nm nm st e fd ∧ mg nm = some (.ref e) ∧ Binds K fd ps [] ∧ Q fd
theorem fun_one {K : PySem.W.Frag} {nm qn : Str} {st : Stmt} {e : Addr} {a b : FuncData} (h : Fun K nm qn st e a) (k : Fun K nm qn st e b) : a = b := by
  obtain ⟨_, _, _, _, _, _, _, _, _, _, h1, _⟩ := h.ex
  obtain ⟨_, _, _, _, _, _, _, _, _, _, k1, _⟩ := k.ex
  rw [h1] at k1
  cases k1
  rfl
theorem law_fd {K : PySem.W.Frag} {mg : Str → Option Value} {nm : Str} {st : Stmt} {ps : List Str} {e : Addr} {C1 C2 : Heap → Prop} {Q : Heap → FuncData → Prop} (a : ∃ fd, Fun K nm nm st e fd)
    (hb : ∀ (kV doc pm : Value) (an : Option Addr) (cdv ct : Value) (s : Shared) (v : Value), BindsTo s (PySem.W.fnOf nm nm (defArgs st) (defBody st) (defScope st) .none kV doc pm an cdv ct) ⟨[v], []⟩ [("script", v)])
    (h : ∀ base, C1 base → C2 base → Bn K mg nm st ps e (Q base)) : ∃ fd : FuncData, (∀ (s : Shared) (v : Value), BindsTo s fd ⟨[v], []⟩ [("script", v)]) ∧ ∀ base, C1 base → C2 base → Q base fd := by
  obtain ⟨fd, fn⟩ := a
  refine ⟨fd, ?_, fun base h1 h2 => ?_⟩
  · obtain ⟨_, _, _, _, _, _, _, _, _, e, _⟩ := fn.ex
    rw [e]
    exact hb _ _ _ _ _ _
  · obtain ⟨fd', fn', _, _, q⟩ := h base h1 h2
    rw [fun_one fn fn']
    exact q
end MS
set_option Elab.async false
set_option linter.all false
set_option maxRecDepth 100000
set_option maxHeartbeats 4000000
set_option synthInstance.maxSize 2000
namespace K16
open PySem PySem.Spec PyProof.Rows L2 MS TM
def topS (i : Nat) : Stmt := PySem.Challenge.pw_windways_k16_reductions_done.main.body.getD i (.Pass ⟨0, 0, 0, 0⟩)
abbrev ss_03 : Stmt := topS 6
theorem sc_03 : FnScope N_far_ends ["joints", "x"] (defScope ss_03) := ⟨rfl, rfl, rfl, by decide +kernel, rfl, by decide +kernel, by decide +kernel⟩
abbrev ss_08 : Stmt := topS 7
theorem sc_08 : FnScope N_joints_touching ["joints", "some"] (defScope ss_08) := ⟨rfl, rfl, rfl, by decide +kernel, rfl, by decide +kernel, by decide +kernel⟩
abbrev ss_0l : Stmt := topS 10
theorem sc_0l : FnScope N_removed_by ["joints", "reduction"] (defScope ss_0l) := ⟨rfl, rfl, rfl, by decide +kernel, rfl, by decide +kernel, by decide +kernel⟩
abbrev ss_0m : Stmt := topS 11
theorem sc_0m : FnScope N_without_joints ["joints", "removed"] (defScope ss_0m) := ⟨rfl, rfl, rfl, by decide +kernel, rfl, by decide +kernel, by decide +kernel⟩
abbrev ss_00 : Stmt := topS 9
theorem sc_00 : FnScope N_after_reduction ["joints", "reduction"] (defScope ss_00) := ⟨rfl, rfl, rfl, by decide +kernel, rfl, by decide +kernel, by decide +kernel⟩
abbrev ss_04 : Stmt := topS 5
theorem sc_04 : FnScope N_has_joint ["joints", "k"] (defScope ss_04) := ⟨rfl, rfl, rfl, by decide +kernel, rfl, by decide +kernel, by decide +kernel⟩
abbrev ss_05 : Stmt := topS 3
theorem sc_05 : FnScope N_is_between ["joint", "x", "y"] (defScope ss_05) := ⟨rfl, rfl, rfl, by decide +kernel, rfl, by decide +kernel, by decide +kernel⟩
abbrev ss_07 : Stmt := topS 8
theorem sc_07 : FnScope N_is_within ["joint", "some"] (defScope ss_07) := ⟨rfl, rfl, rfl, by decide +kernel, rfl, by decide +kernel, by decide +kernel⟩
abbrev ss_01 : Stmt := topS 4
theorem sc_01 : FnScope N_can_be_done ["joints", "reduction"] (defScope ss_01) := ⟨rfl, rfl, rfl, by decide +kernel, rfl, by decide +kernel, by decide +kernel⟩
abbrev ss_06 : Stmt := topS 2
theorem sc_06 : FnScope N_is_reduced ["mine", "joints"] (defScope ss_06) := ⟨rfl, rfl, rfl, by decide +kernel, rfl, by decide +kernel, by decide +kernel⟩
abbrev ss_02 : Stmt := topS 1
theorem sc_02 : FnScope N_can_reduce ["mine", "reductions"] (defScope ss_02) := ⟨rfl, rfl, rfl, by decide +kernel, rfl, by decide +kernel, by decide +kernel⟩
abbrev ss_0g : Stmt := topS 13
theorem sc_0g : FnScope N_law_pen ["script"] (defScope ss_0g) := ⟨rfl, rfl, rfl, by decide +kernel, rfl, by decide +kernel, by decide +kernel⟩
abbrev ss_0a : Stmt := topS 14
theorem sc_0a : FnScope N_law_fresh ["pen"] (defScope ss_0a) := ⟨rfl, rfl, rfl, by decide +kernel, rfl, by decide +kernel, by decide +kernel⟩
abbrev ss_09 : Stmt := topS 15
theorem sc_09 : FnScope N_law_draw ["pen", "bound"] (defScope ss_09) := ⟨rfl, rfl, rfl, by decide +kernel, rfl, by decide +kernel, by decide +kernel⟩
abbrev ss_0f : Stmt := topS 16
theorem sc_0f : FnScope N_law_one_of ["pen", "some"] (defScope ss_0f) := ⟨rfl, rfl, rfl, by decide +kernel, rfl, by decide +kernel, by decide +kernel⟩
abbrev ss_0k : Stmt := topS 17
theorem sc_0k : FnScope N_law_two_places ["pen", "places"] (defScope ss_0k) := ⟨rfl, rfl, rfl, by decide +kernel, rfl, by decide +kernel, by decide +kernel⟩
abbrev ss_0e : Stmt := topS 18
theorem sc_0e : FnScope N_law_mine ["pen", "most", "many"] (defScope ss_0e) := ⟨rfl, rfl, rfl, by decide +kernel, rfl, by decide +kernel, by decide +kernel⟩
abbrev ss_0b : Stmt := topS 19
theorem sc_0b : FnScope N_law_inner ["mine"] (defScope ss_0b) := ⟨rfl, rfl, rfl, by decide +kernel, rfl, by decide +kernel, by decide +kernel⟩
abbrev ss_0d : Stmt := topS 20
theorem sc_0d : FnScope N_law_made ["mine", "joints", "reduction"] (defScope ss_0d) := ⟨rfl, rfl, rfl, by decide +kernel, rfl, by decide +kernel, by decide +kernel⟩
abbrev ss_0h : Stmt := topS 21
theorem sc_0h : FnScope N_law_reduced_due ["mine", "reductions"] (defScope ss_0h) := ⟨rfl, rfl, rfl, by decide +kernel, rfl, by decide +kernel, by decide +kernel⟩
abbrev ss_0c : Stmt := topS 22
theorem sc_0c : FnScope N_law_loose ["pen", "mine"] (defScope ss_0c) := ⟨rfl, rfl, rfl, by decide +kernel, rfl, by decide +kernel, by decide +kernel⟩
abbrev ss_0j : Stmt := topS 23
theorem sc_0j : FnScope N_law_some_reduction ["pen", "mine", "number"] (defScope ss_0j) := ⟨rfl, rfl, rfl, by decide +kernel, rfl, by decide +kernel, by decide +kernel⟩
abbrev ss_0i : Stmt := topS 24
theorem sc_0i : FnScope N_law_row ["pen", "mine"] (defScope ss_0i) := ⟨rfl, rfl, rfl, by decide +kernel, rfl, by decide +kernel, by decide +kernel⟩
abbrev ss_law : Stmt := topS 25
theorem sc_law : FnScope N_law ["script"] (defScope ss_law) := ⟨rfl, rfl, rfl, by decide +kernel, rfl, by decide +kernel, by decide +kernel⟩
section
variable {P : Program} {w : World} {K : PySem.W.Frag} {mg : Str → Option Value} {base : Heap}
abbrev H_far_ends (P : Program) (w : World) (K : PySem.W.Frag) (mg : Str → Option Value) (base : Heap) (a : Addr) : Prop := Bn K mg "far_ends" ss_03 ["joints", "x"] a fun d => FnG P w K mg base 1 a d ["joints", "x"] F_far_ends
theorem ok_03 {f : Addr} (a : At K "far_ends" ss_03 f) (m_03 : mg "far_ends" = some (.ref f)) : H_far_ends P w K mg base f := by
  obtain ⟨fd, fn⟩ := a.2
  have b_03 := fn.binds (ps := ["joints", "x"]) fun _ _ _ _ _ _ us hl => match us, hl with | [_, _], _ => rfl
  refine ⟨fd, fn, m_03, b_03, ?_⟩
  refine fnG_of fn sc_03 fun cdv A outer s H hr hgd => ⟨M_far_ends, ?_, den_does⟩
  have hu := hr.units
  have hud := L2.hu_of hr
  have hu80 := room80 hr
  have hu65 := Nat.lt_of_le_of_lt (Nat.add_le_add_left (show 65 ≤ 80 by decide) _) hu80
  exact (mss_one (ms_ret (me_fz (me_lc (own := [("joint", 2)]) (e := (mIf (mB (mBin fEq (mBin fIx (mVar 2) (mC (.int 0))) (mVar 1))) (mBin fIx (mVar 2) (mC (.int 1))) (mBin fIx (mVar 2) (mC (.int 0))))) (is := [2]) rfl sc_03.nd (mi_items (mv 0)) (blkOk_by (own := [("joint", 2)]) (N := N_far_ends) (sc := defScope ss_03) (by decide +kernel)) (fun _ _ _ _ _ => (mgl_name (i := 2) sc_03.nd rfl (by first | exact Or.inl rfl | exact Or.inr rfl))) (fun _ _ _ _ _ => (mts_one (MW.mt (mw_and (mt_cmp o_isNotN (mv 2) me_non (nomark _)) (mw_and1 (mt_cmp o_in (mv 1) (mv 2) (by rfl))))))) (fun _ _ _ _ _ => (me_ifExp (mt_cmp (o_eq hu) (me_ix (mv 2) me_int (fun _ _ => rfl)) (mv 1) (nomark _)) (me_ix (mv 2) me_int (fun _ _ => rfl)) (me_ix (mv 2) me_int (fun _ _ => rfl)))) (by decide)))))
abbrev H_joints_touching (P : Program) (w : World) (K : PySem.W.Frag) (mg : Str → Option Value) (base : Heap) (a : Addr) : Prop := Bn K mg "joints_touching" ss_08 ["joints", "some"] a fun d => FnG P w K mg base 1 a d ["joints", "some"] F_joints_touching
theorem ok_08 {f : Addr} (a : At K "joints_touching" ss_08 f) (m_08 : mg "joints_touching" = some (.ref f)) (n_enumerate : mg "enumerate" = none) : H_joints_touching P w K mg base f := by
  obtain ⟨fd, fn⟩ := a.2
  have b_08 := fn.binds (ps := ["joints", "some"]) fun _ _ _ _ _ _ us hl => match us, hl with | [_, _], _ => rfl
  refine ⟨fd, fn, m_08, b_08, ?_⟩
  refine fnG_of fn sc_08 fun cdv A outer s H hr hgd => ⟨M_joints_touching, ?_, den_does⟩
  have hu := hr.units
  have hud := L2.hu_of hr
  have hu80 := room80 hr
  have hu65 := Nat.lt_of_le_of_lt (Nat.add_le_add_left (show 65 ≤ 80 by decide) _) hu80
  exact (mss_one (ms_ret (me_fz (me_lc (own := [("k", 2), ("joint", 3)]) (e := (mVar 2)) (is := [2, 3]) rfl sc_08.nd (mi_enum (by rfl) n_enumerate (ma_cons (mv 0) ma_nil star_Name)) (blkOk_by (own := [("k", 2), ("joint", 3)]) (N := N_joints_touching) (sc := defScope ss_08) (by decide +kernel)) (fun _ _ _ _ _ => (mgl_tup rfl (mgsl_cons (mgl_name (i := 2) sc_08.nd rfl (by first | exact Or.inl rfl | exact Or.inr rfl)) (mgsl_cons (mgl_name (i := 3) sc_08.nd rfl (by first | exact Or.inl rfl | exact Or.inr rfl)) mgsl_nil)))) (fun _ _ _ _ _ => (mts_one (MW.mt (mw_and (mt_cmp o_isNotN (mv 3) me_non (nomark _)) (mw_and1 (MW.mt (mw_or (mt_cmp o_in (me_ix (mv 3) me_int (fun _ _ => rfl)) (mv 1) (by rfl)) (mw_or1 (mt_cmp o_in (me_ix (mv 3) me_int (fun _ _ => rfl)) (mv 1) (by rfl)))))))))) (fun _ _ _ _ _ => (mv 2)) (by decide)))))
abbrev H_removed_by (P : Program) (w : World) (K : PySem.W.Frag) (mg : Str → Option Value) (base : Heap) (a : Addr) : Prop := Bn K mg "removed_by" ss_0l ["joints", "reduction"] a fun d => FnG P w K mg base 2 a d ["joints", "reduction"] F_removed_by
theorem ok_0l {f : Addr} (a : At K "removed_by" ss_0l f) (m_0l : mg "removed_by" = some (.ref f)) {a_joints_touching : Addr} (h_joints_touching : H_joints_touching P w K mg base a_joints_touching) (n_list : mg "list" = none) : H_removed_by P w K mg base f := by
  obtain ⟨fd, fn⟩ := a.2
  have b_0l := fn.binds (ps := ["joints", "reduction"]) fun _ _ _ _ _ _ us hl => match us, hl with | [_, _], _ => rfl
  obtain ⟨d_joints_touching, f_08, m_08, b_08, g_08⟩ := h_joints_touching
  refine ⟨fd, fn, m_0l, b_0l, ?_⟩
  refine fnG_of fn sc_0l fun cdv A outer s H hr hgd => ⟨M_removed_by, ?_, den_does⟩
  have hu := hr.units
  have hud := L2.hu_of hr
  have hu80 := room80 hr
  have hu65 := Nat.lt_of_le_of_lt (Nat.add_le_add_left (show 65 ≤ 80 by decide) _) hu80
  exact (mss_cons (ms_if (mt_cmp (o_eqS hu) (me_ix (mv 1) me_int (fun _ _ => rfl)) me_str (nomark _)) (mss_one (ms_ret (me_callTy (c_fz c_list) (by rfl) n_list MS.boot_list (ma_cons (me_slice (mv 1) (mp_some me_int) mp_none) ma_nil star_Subscript)))) mss_nil)
    (mss_one (ms_ret (me_call (g_08.mono (by decide)) hr hgd (by rfl) m_08 f_08.kp b_08 (fun _ _ _ => den_len) (ma_cons (mv 0) (ma_cons (me_ifExp (mt_cmp (o_eqS hu) (me_ix (mv 1) me_int (fun _ _ => rfl)) me_str (nomark _)) (me_slice (mv 1) (mp_some me_int) (mp_some me_int)) (me_ix (mv 1) me_int (fun _ _ => rfl))) ma_nil star_IfExp) star_Name)))))
abbrev H_without_joints (P : Program) (w : World) (K : PySem.W.Frag) (mg : Str → Option Value) (base : Heap) (a : Addr) : Prop := Bn K mg "without_joints" ss_0m ["joints", "removed"] a fun d => FnG P w K mg base 1 a d ["joints", "removed"] F_without_joints
theorem ok_0m {f : Addr} (a : At K "without_joints" ss_0m f) (m_0m : mg "without_joints" = some (.ref f)) (n_enumerate : mg "enumerate" = none) : H_without_joints P w K mg base f := by
  obtain ⟨fd, fn⟩ := a.2
  have b_0m := fn.binds (ps := ["joints", "removed"]) fun _ _ _ _ _ _ us hl => match us, hl with | [_, _], _ => rfl
  refine ⟨fd, fn, m_0m, b_0m, ?_⟩
  refine fnG_of fn sc_0m fun cdv A outer s H hr hgd => ⟨M_without_joints, ?_, den_does⟩
  have hu := hr.units
  have hud := L2.hu_of hr
  have hu80 := room80 hr
  have hu65 := Nat.lt_of_le_of_lt (Nat.add_le_add_left (show 65 ≤ 80 by decide) _) hu80
  exact (mss_one (ms_ret (me_fz (me_lc (own := [("k", 2), ("joint", 3)]) (e := (mIf (mB (mBin (fIn false) (mVar 2) (mVar 1))) (mC .non) (mVar 3))) (is := [2, 3]) rfl sc_0m.nd (mi_enum (by rfl) n_enumerate (ma_cons (mv 0) ma_nil star_Name)) (blkOk_by (own := [("k", 2), ("joint", 3)]) (N := N_without_joints) (sc := defScope ss_0m) (by decide +kernel)) (fun _ _ _ _ _ => (mgl_tup rfl (mgsl_cons (mgl_name (i := 2) sc_0m.nd rfl (by first | exact Or.inl rfl | exact Or.inr rfl)) (mgsl_cons (mgl_name (i := 3) sc_0m.nd rfl (by first | exact Or.inl rfl | exact Or.inr rfl)) mgsl_nil)))) (fun _ _ _ _ _ => mts_nil) (fun _ _ _ _ _ => (me_ifExp (mt_cmp o_in (mv 2) (mv 1) (by rfl)) me_non (mv 3))) (by decide)))))
abbrev H_after_reduction (P : Program) (w : World) (K : PySem.W.Frag) (mg : Str → Option Value) (base : Heap) (a : Addr) : Prop := Bn K mg "after_reduction" ss_00 ["joints", "reduction"] a fun d => FnG P w K mg base 3 a d ["joints", "reduction"] F_after_reduction
theorem ok_00 {f : Addr} (a : At K "after_reduction" ss_00 f) (m_00 : mg "after_reduction" = some (.ref f)) {a_far_ends : Addr} (h_far_ends : H_far_ends P w K mg base a_far_ends) {a_removed_by : Addr} (h_removed_by : H_removed_by P w K mg base a_removed_by) {a_without_joints : Addr} (h_without_joints : H_without_joints P w K mg base a_without_joints) (n_tuple : mg "tuple" = none) : H_after_reduction P w K mg base f := by
  obtain ⟨fd, fn⟩ := a.2
  have b_00 := fn.binds (ps := ["joints", "reduction"]) fun _ _ _ _ _ _ us hl => match us, hl with | [_, _], _ => rfl
  obtain ⟨d_far_ends, f_03, m_03, b_03, g_03⟩ := h_far_ends
  obtain ⟨d_removed_by, f_0l, m_0l, b_0l, g_0l⟩ := h_removed_by
  obtain ⟨d_without_joints, f_0m, m_0m, b_0m, g_0m⟩ := h_without_joints
  refine ⟨fd, fn, m_00, b_00, ?_⟩
  refine fnG_of fn sc_00 fun cdv A outer s H hr hgd => ⟨M_after_reduction, ?_, den_does⟩
  have hu := hr.units
  have hud := L2.hu_of hr
  have hu80 := room80 hr
  have hu65 := Nat.lt_of_le_of_lt (Nat.add_le_add_left (show 65 ≤ 80 by decide) _) hu80
  exact (mss_cons (ms_set (i := 2) sc_00.nd rfl (by first | exact Or.inl rfl | exact Or.inr rfl) (me_call (g_0m.mono (by decide)) hr hgd (by rfl) m_0m f_0m.kp b_0m (fun _ _ _ => den_len) (ma_cons (mv 0) (ma_cons (me_call (g_0l.mono (by decide)) hr hgd (by rfl) m_0l f_0l.kp b_0l (fun _ _ _ => den_len) (ma_cons (mv 0) (ma_cons (mv 1) ma_nil star_Name) star_Name)) ma_nil star_Call) star_Name)))
    (mss_cons (ms_if (mt_cmp (o_eqS hu) (me_ix (mv 1) me_int (fun _ _ => rfl)) me_str (nomark _)) (mss_one (ms_ret (me_op o_add (mv 2) (me_lstV (ma_cons (me_ix (mv 0) (me_ix (mv 1) me_int (fun _ _ => rfl)) (fun _ _ => rfl)) ma_nil star_Subscript))))) mss_nil)
    (mss_cons (ms_if (mt_cmp (o_eqS hu) (me_ix (mv 1) me_int (fun _ _ => rfl)) me_str (nomark _)) (mss_one (ms_ret (me_op o_add (mv 2) (me_lstV (ma_cons (me_callTy c_tuple (by rfl) n_tuple MS.boot_tuple (ma_cons (me_call (g_03.mono (by decide)) hr hgd (by rfl) m_03 f_03.kp b_03 (fun _ _ _ => den_len) (ma_cons (mv 0) (ma_cons (me_ix (mv 1) me_int (fun _ _ => rfl)) ma_nil star_Subscript) star_Name)) ma_nil star_Call)) ma_nil star_Call))))) mss_nil)
    (mss_one (ms_ret (mv 2))))))
abbrev H_has_joint (P : Program) (w : World) (K : PySem.W.Frag) (mg : Str → Option Value) (base : Heap) (a : Addr) : Prop := Bn K mg "has_joint" ss_04 ["joints", "k"] a fun d => FnG P w K mg base 1 a d ["joints", "k"] F_has_joint
theorem ok_04 {f : Addr} (a : At K "has_joint" ss_04 f) (m_04 : mg "has_joint" = some (.ref f)) (n_len : mg "len" = none) : H_has_joint P w K mg base f := by
  obtain ⟨fd, fn⟩ := a.2
  have b_04 := fn.binds (ps := ["joints", "k"]) fun _ _ _ _ _ _ us hl => match us, hl with | [_, _], _ => rfl
  refine ⟨fd, fn, m_04, b_04, ?_⟩
  refine fnG_of fn sc_04 fun cdv A outer s H hr hgd => ⟨M_has_joint, ?_, den_does⟩
  have hu := hr.units
  have hud := L2.hu_of hr
  have hu80 := room80 hr
  have hu65 := Nat.lt_of_le_of_lt (Nat.add_le_add_left (show 65 ≤ 80 by decide) _) hu80
  exact (mss_one (ms_ret (me_and (me_cmp o_lt (mv 1) (me_callB c_len (by rfl) n_len MS.boot_len (ma_cons (mv 0) ma_nil star_Name)) (nomark _)) (me_one (me_cmp o_isNotN (me_ix (mv 0) (mv 1) (fun _ _ => rfl)) me_non (nomark _))))))
abbrev H_is_between (P : Program) (w : World) (K : PySem.W.Frag) (mg : Str → Option Value) (base : Heap) (a : Addr) : Prop := Bn K mg "is_between" ss_05 ["joint", "x", "y"] a fun d => FnG P w K mg base 1 a d ["joint", "x", "y"] F_is_between
theorem ok_05 {f : Addr} (a : At K "is_between" ss_05 f) (m_05 : mg "is_between" = some (.ref f)) : H_is_between P w K mg base f := by
  obtain ⟨fd, fn⟩ := a.2
  have b_05 := fn.binds (ps := ["joint", "x", "y"]) fun _ _ _ _ _ _ us hl => match us, hl with | [_, _, _], _ => rfl
  refine ⟨fd, fn, m_05, b_05, ?_⟩
  refine fnG_of fn sc_05 fun cdv A outer s H hr hgd => ⟨M_is_between, ?_, den_does⟩
  have hu := hr.units
  have hud := L2.hu_of hr
  have hu80 := room80 hr
  have hu65 := Nat.lt_of_le_of_lt (Nat.add_le_add_left (show 65 ≤ 80 by decide) _) hu80
  exact (mss_one (ms_ret (me_cmp (o_inPT hu65) (mv 0) (me_tup (ma_cons (me_tup (ma_cons (mv 1) (ma_cons (mv 2) ma_nil star_Name) star_Name)) (ma_cons (me_tup (ma_cons (mv 2) (ma_cons (mv 1) ma_nil star_Name) star_Name)) ma_nil star_Tuple) star_Tuple)) (by rfl))))
abbrev H_is_within (P : Program) (w : World) (K : PySem.W.Frag) (mg : Str → Option Value) (base : Heap) (a : Addr) : Prop := Bn K mg "is_within" ss_07 ["joint", "some"] a fun d => FnG P w K mg base 1 a d ["joint", "some"] F_is_within
theorem ok_07 {f : Addr} (a : At K "is_within" ss_07 f) (m_07 : mg "is_within" = some (.ref f)) : H_is_within P w K mg base f := by
  obtain ⟨fd, fn⟩ := a.2
  have b_07 := fn.binds (ps := ["joint", "some"]) fun _ _ _ _ _ _ us hl => match us, hl with | [_, _], _ => rfl
  refine ⟨fd, fn, m_07, b_07, ?_⟩
  refine fnG_of fn sc_07 fun cdv A outer s H hr hgd => ⟨M_is_within, ?_, den_does⟩
  have hu := hr.units
  have hud := L2.hu_of hr
  have hu80 := room80 hr
  have hu65 := Nat.lt_of_le_of_lt (Nat.add_le_add_left (show 65 ≤ 80 by decide) _) hu80
  exact (mss_one (ms_ret (me_and (me_cmp o_in (me_ix (mv 0) me_int (fun _ _ => rfl)) (mv 1) (by rfl)) (me_one (me_cmp o_in (me_ix (mv 0) me_int (fun _ _ => rfl)) (mv 1) (by rfl))))))
abbrev H_can_be_done (P : Program) (w : World) (K : PySem.W.Frag) (mg : Str → Option Value) (base : Heap) (a : Addr) : Prop := Bn K mg "can_be_done" ss_01 ["joints", "reduction"] a fun d => FnG P w K mg base 2 a d ["joints", "reduction"] F_can_be_done
theorem ok_01 {f : Addr} (a : At K "can_be_done" ss_01 f) (m_01 : mg "can_be_done" = some (.ref f)) {a_far_ends : Addr} (h_far_ends : H_far_ends P w K mg base a_far_ends) {a_has_joint : Addr} (h_has_joint : H_has_joint P w K mg base a_has_joint) {a_is_between : Addr} (h_is_between : H_is_between P w K mg base a_is_between) {a_is_within : Addr} (h_is_within : H_is_within P w K mg base a_is_within) {a_joints_touching : Addr} (h_joints_touching : H_joints_touching P w K mg base a_joints_touching) (n_all : mg "all" = none) (n_len : mg "len" = none) : H_can_be_done P w K mg base f := by
  obtain ⟨fd, fn⟩ := a.2
  have b_01 := fn.binds (ps := ["joints", "reduction"]) fun _ _ _ _ _ _ us hl => match us, hl with | [_, _], _ => rfl
  obtain ⟨d_far_ends, f_03, m_03, b_03, g_03⟩ := h_far_ends
  obtain ⟨d_has_joint, f_04, m_04, b_04, g_04⟩ := h_has_joint
  obtain ⟨d_is_between, f_05, m_05, b_05, g_05⟩ := h_is_between
  obtain ⟨d_is_within, f_07, m_07, b_07, g_07⟩ := h_is_within
  obtain ⟨d_joints_touching, f_08, m_08, b_08, g_08⟩ := h_joints_touching
  refine ⟨fd, fn, m_01, b_01, ?_⟩
  refine fnG_of fn sc_01 fun cdv A outer s H hr hgd => ⟨M_can_be_done, ?_, den_does⟩
  have hu := hr.units
  have hud := L2.hu_of hr
  have hu80 := room80 hr
  have hu65 := Nat.lt_of_le_of_lt (Nat.add_le_add_left (show 65 ≤ 80 by decide) _) hu80
  exact (mss_cons (ms_if (mt_cmp (o_eqS hu) (me_ix (mv 1) me_int (fun _ _ => rfl)) me_str (nomark _)) (mss_cons (ms_asg (mv 1) (mg_tup rfl (mgs_cons (mg_name (i := 4) sc_01.nd rfl (by first | exact Or.inl rfl | exact Or.inr rfl)) (mgs_cons (mg_name (i := 7) sc_01.nd rfl (by first | exact Or.inl rfl | exact Or.inr rfl)) (mgs_cons (mg_name (i := 8) sc_01.nd rfl (by first | exact Or.inl rfl | exact Or.inr rfl)) mgs_nil)))))
    (mss_one (ms_ret (me_and (me_call (g_04.mono (by decide)) hr hgd (by rfl) m_04 f_04.kp b_04 (fun _ _ _ => den_len) (ma_cons (mv 0) (ma_cons (mv 7) ma_nil star_Name) star_Name)) (me_and (me_call (g_04.mono (by decide)) hr hgd (by rfl) m_04 f_04.kp b_04 (fun _ _ _ => den_len) (ma_cons (mv 0) (ma_cons (mv 8) ma_nil star_Name) star_Name)) (me_one (me_call (g_05.mono (by decide)) hr hgd (by rfl) m_05 f_05.kp b_05 (fun _ _ _ => den_len) (ma_cons (me_ix (mv 0) (mv 7) (fun _ _ => rfl)) (ma_cons (me_ix (me_ix (mv 0) (mv 8) (fun _ _ => rfl)) me_int (fun _ _ => rfl)) (ma_cons (me_ix (me_ix (mv 0) (mv 8) (fun _ _ => rfl)) me_int (fun _ _ => rfl)) ma_nil star_Subscript) star_Subscript) star_Subscript)))))))) mss_nil)
    (mss_cons (ms_if (mt_cmp (o_eqS hu) (me_ix (mv 1) me_int (fun _ _ => rfl)) me_str (nomark _)) (mss_cons (ms_set (i := 3) sc_01.nd rfl (by first | exact Or.inl rfl | exact Or.inr rfl) (me_call (g_03.mono (by decide)) hr hgd (by rfl) m_03 f_03.kp b_03 (fun _ _ _ => den_len) (ma_cons (mv 0) (ma_cons (me_ix (mv 1) me_int (fun _ _ => rfl)) ma_nil star_Subscript) star_Name)))
    (mss_one (ms_ret (me_and (me_cmp (o_eq hu) (me_callB c_len (by rfl) n_len MS.boot_len (ma_cons (mv 3) ma_nil star_Name)) me_int (nomark _)) (me_one (me_cmp (o_ne hu) (me_ix (mv 3) me_int (fun _ _ => rfl)) (me_ix (mv 3) me_int (fun _ _ => rfl)) (nomark _))))))) mss_nil)
    (mss_cons (ms_asg (mv 1) (mg_tup rfl (mgs_cons (mg_name (i := 4) sc_01.nd rfl (by first | exact Or.inl rfl | exact Or.inr rfl)) (mgs_cons (mg_name (i := 5) sc_01.nd rfl (by first | exact Or.inl rfl | exact Or.inr rfl)) (mgs_cons (mg_name (i := 6) sc_01.nd rfl (by first | exact Or.inl rfl | exact Or.inr rfl)) mgs_nil)))))
    (mss_cons (ms_set (i := 2) sc_01.nd rfl (by first | exact Or.inl rfl | exact Or.inr rfl) (me_call (g_08.mono (by decide)) hr hgd (by rfl) m_08 f_08.kp b_08 (fun _ _ _ => den_len) (ma_cons (mv 0) (ma_cons (mv 6) ma_nil star_Name) star_Name)))
    (mss_one (ms_ret (me_and (me_cmp o_gt (me_callB c_len (by rfl) n_len MS.boot_len (ma_cons (mv 2) ma_nil star_Name)) me_int (nomark _)) (me_one (me_callB (c_all rfl) (by rfl) n_all MS.boot_all (ma_cons (me_fz (me_lc (own := [("k", 9)]) (e := (mCall F_is_within (mCons (mBin fIx (mVar 0) (mVar 9)) (mCons (mBin fAdd (mVar 6) (mTup (mCons (mVar 5) mNil))) mNil)))) (is := [9]) rfl sc_01.nd (mi_items (mv 2)) (blkOk_by (own := [("k", 9)]) (N := N_can_be_done) (sc := defScope ss_01) (by decide +kernel)) (fun _ _ _ _ _ => (mgl_name (i := 9) sc_01.nd rfl (by first | exact Or.inl rfl | exact Or.inr rfl))) (fun _ _ _ _ _ => mts_nil) (fun _ _ _ _ _ => (me_call (g_07.mono (by decide)) hr hgd (by rfl) m_07 f_07.kp b_07 (fun _ _ _ => den_len) (ma_cons (me_ix (mv 0) (mv 9) (fun _ _ => rfl)) (ma_cons (me_op o_add (mv 6) (me_tup (ma_cons (mv 5) ma_nil star_Name))) ma_nil star_BinOp) star_Subscript))) (by decide))) ma_nil star_ListComp))))))))))
abbrev H_is_reduced (P : Program) (w : World) (K : PySem.W.Frag) (mg : Str → Option Value) (base : Heap) (a : Addr) : Prop := Bn K mg "is_reduced" ss_06 ["mine", "joints"] a fun d => FnG P w K mg base 2 a d ["mine", "joints"] F_is_reduced
theorem ok_06 {f : Addr} (a : At K "is_reduced" ss_06 f) (m_06 : mg "is_reduced" = some (.ref f)) {a_is_between : Addr} (h_is_between : H_is_between P w K mg base a_is_between) (n_len : mg "len" = none) : H_is_reduced P w K mg base f := by
  obtain ⟨fd, fn⟩ := a.2
  have b_06 := fn.binds (ps := ["mine", "joints"]) fun _ _ _ _ _ _ us hl => match us, hl with | [_, _], _ => rfl
  obtain ⟨d_is_between, f_05, m_05, b_05, g_05⟩ := h_is_between
  refine ⟨fd, fn, m_06, b_06, ?_⟩
  refine fnG_of fn sc_06 fun cdv A outer s H hr hgd => ⟨M_is_reduced, ?_, den_does⟩
  have hu := hr.units
  have hud := L2.hu_of hr
  have hu80 := room80 hr
  have hu65 := Nat.lt_of_le_of_lt (Nat.add_le_add_left (show 65 ≤ 80 by decide) _) hu80
  exact (mss_cons (ms_setLcF (j := 2) (own := [("joint", 3)]) (e := (mVar 3)) (is := [3]) rfl sc_06.nd rfl rfl (sw_true rfl rfl rfl (by decide +kernel)) (mi_items (mv 1)) (blkOk_by (own := [("joint", 3)]) (N := N_is_reduced) (sc := defScope ss_06) (by decide +kernel)) (fun _ _ _ _ _ => (mgl_name (i := 3) sc_06.nd rfl (by first | exact Or.inl rfl | exact Or.inr rfl))) (fun _ _ _ _ _ => (mts_one (mt_cmp o_isNotN (mv 3) me_non (nomark _)))) (fun _ _ _ _ _ => (mv 3)) (by decide))
    (mss_one (ms_ret (me_and (me_cmp (o_eq hu) (me_callB c_len (by rfl) n_len MS.boot_len (ma_cons (mv 2) ma_nil star_Name)) me_int (nomark _)) (me_one (me_call (g_05.mono (by decide)) hr hgd (by rfl) m_05 f_05.kp b_05 (fun _ _ _ => den_len) (ma_cons (me_ix (mv 2) me_int (fun _ _ => rfl)) (ma_cons (me_ix (mv 0) me_int (fun _ _ => rfl)) (ma_cons (me_ix (mv 0) me_int (fun _ _ => rfl)) ma_nil star_Subscript) star_Subscript) star_Subscript)))))))
abbrev H_can_reduce (P : Program) (w : World) (K : PySem.W.Frag) (mg : Str → Option Value) (base : Heap) (a : Addr) : Prop := Bn K mg "can_reduce" ss_02 ["mine", "reductions"] a fun d => FnG P w K mg base 4 a d ["mine", "reductions"] F_can_reduce
theorem ok_02 {f : Addr} (a : At K "can_reduce" ss_02 f) (m_02 : mg "can_reduce" = some (.ref f)) {a_after_reduction : Addr} (h_after_reduction : H_after_reduction P w K mg base a_after_reduction) {a_can_be_done : Addr} (h_can_be_done : H_can_be_done P w K mg base a_can_be_done) {a_is_reduced : Addr} (h_is_reduced : H_is_reduced P w K mg base a_is_reduced) (n_enumerate : mg "enumerate" = none) (n_len : mg "len" = none) (n_list : mg "list" = none) : H_can_reduce P w K mg base f := by
  obtain ⟨fd, fn⟩ := a.2
  have b_02 := fn.binds (ps := ["mine", "reductions"]) fun _ _ _ _ _ _ us hl => match us, hl with | [_, _], _ => rfl
  obtain ⟨d_after_reduction, f_00, m_00, b_00, g_00⟩ := h_after_reduction
  obtain ⟨d_can_be_done, f_01, m_01, b_01, g_01⟩ := h_can_be_done
  obtain ⟨d_is_reduced, f_06, m_06, b_06, g_06⟩ := h_is_reduced
  refine ⟨fd, fn, m_02, b_02, ?_⟩
  refine fnG_of fn sc_02 fun cdv A outer s H hr hgd => ⟨M_can_reduce, ?_, den_does⟩
  have hu := hr.units
  have hud := L2.hu_of hr
  have hu80 := room80 hr
  have hu65 := Nat.lt_of_le_of_lt (Nat.add_le_add_left (show 65 ≤ 80 by decide) _) hu80
  exact (mss_cons (ms_set (i := 2) sc_02.nd rfl (by first | exact Or.inl rfl | exact Or.inr rfl) (me_callTy (c_fz c_list) (by rfl) n_list MS.boot_list (ma_cons (me_ix (mv 0) me_int (fun _ _ => rfl)) ma_nil star_Subscript)))
    (mss_cons (ms_for PassesOwn.never rfl (mi_enum (by rfl) n_enumerate (ma_cons (mv 1) ma_nil star_Name)) (mg_tup rfl (mgs_cons (mg_name (i := 3) sc_02.nd rfl (by first | exact Or.inl rfl | exact Or.inr rfl)) (mgs_cons (mg_name (i := 4) sc_02.nd rfl (by first | exact Or.inl rfl | exact Or.inr rfl)) mgs_nil))) (mss_cons (ms_if (mt_not (mt_val (me_call (g_01.mono (by decide)) hr hgd (by rfl) m_01 f_01.kp b_01 (fun _ _ _ => den_len) (ma_cons (mv 2) (ma_cons (mv 4) ma_nil star_Name) star_Name)))) (mss_one (ms_ret (mv 3))) mss_nil)
    (mss_one (ms_set (i := 2) sc_02.nd rfl (by first | exact Or.inl rfl | exact Or.inr rfl) (me_call (g_00.mono (by decide)) hr hgd (by rfl) m_00 f_00.kp b_00 (fun _ _ _ => den_len) (ma_cons (mv 2) (ma_cons (mv 4) ma_nil star_Name) star_Name))))))
    (mss_one (ms_ret (me_ifExp (mt_val (me_call (g_06.mono (by decide)) hr hgd (by rfl) m_06 f_06.kp b_06 (fun _ _ _ => den_len) (ma_cons (mv 0) (ma_cons (mv 2) ma_nil star_Name) star_Name))) me_non (me_callB c_len (by rfl) n_len MS.boot_len (ma_cons (mv 1) ma_nil star_Name)))))))
abbrev H_law_pen (P : Program) (w : World) (K : PySem.W.Frag) (mg : Str → Option Value) (base : Heap) (a : Addr) : Prop := Bn K mg "_law_pen" ss_0g ["script"] a fun d => FnG P w K mg base 1 a d ["script"] F_law_pen
theorem ok_0g {f : Addr} (a : At K "_law_pen" ss_0g f) (m_0g : mg "_law_pen" = some (.ref f)) (n_list : mg "list" = none) : H_law_pen P w K mg base f := by
  obtain ⟨fd, fn⟩ := a.2
  have b_0g := fn.binds (ps := ["script"]) fun _ _ _ _ _ _ us hl => match us, hl with | [_], _ => rfl
  refine ⟨fd, fn, m_0g, b_0g, ?_⟩
  refine fnG_of fn sc_0g fun cdv A outer s H hr hgd => ⟨M_law_pen, ?_, den_does⟩
  have hu := hr.units
  have hud := L2.hu_of hr
  have hu80 := room80 hr
  have hu65 := Nat.lt_of_le_of_lt (Nat.add_le_add_left (show 65 ≤ 80 by decide) _) hu80
  exact (mss_one (ms_ret (me_lst (ma_cons (me_callTy (c_fz c_list) (by rfl) n_list MS.boot_list (ma_cons (me_slice (mv 0) mp_none (mp_some me_int)) ma_nil star_Subscript)) (ma_cons me_int (ma_cons me_int ma_nil star_Constant) star_Constant) star_Call))))
abbrev H_law_fresh (P : Program) (w : World) (K : PySem.W.Frag) (mg : Str → Option Value) (base : Heap) (a : Addr) : Prop := Bn K mg "_law_fresh" ss_0a ["pen"] a fun d => FnG P w K mg base 1 a d ["pen"] F_law_fresh
theorem ok_0a {f : Addr} (a : At K "_law_fresh" ss_0a f) (m_0a : mg "_law_fresh" = some (.ref f)) (n_int : mg "int" = none) (n_len : mg "len" = none) (n_range : mg "range" = none) : H_law_fresh P w K mg base f := by
  obtain ⟨fd, fn⟩ := a.2
  have b_0a := fn.binds (ps := ["pen"]) fun _ _ _ _ _ _ us hl => match us, hl with | [_], _ => rfl
  refine ⟨fd, fn, m_0a, b_0a, ?_⟩
  refine fnG_of fn sc_0a fun cdv A outer s H hr hgd => ⟨M_law_fresh, ?_, den_does⟩
  have hu := hr.units
  have hud := L2.hu_of hr
  have hu80 := room80 hr
  have hu65 := Nat.lt_of_le_of_lt (Nat.add_le_add_left (show 65 ≤ 80 by decide) _) hu80
  exact (mss_cons (ms_par (i := 6) (j := 7) rfl sc_0a.nd rfl rfl (by decide) rfl rfl (ma_cons (me_ix (mv 0) me_int (fun _ _ => rfl)) (ma_cons (me_ix (mv 0) me_int (fun _ _ => rfl)) ma_nil)))
    (mss_cons (ms_asg (me_op o_add (mv 6) me_int) (mg_sub (mv 0) me_int))
    (mss_cons (ms_set (i := 1) sc_0a.nd rfl (by first | exact Or.inl rfl | exact Or.inr rfl) (me_ifExp (mt_cmp (o_ne hu) (mv 7) (me_lstV ma_nil) (nomark _)) (me_ix (mv 7) (me_op o_mod (me_callTy c_int (by rfl) n_int MS.boot_int (ma_cons (mv 6) ma_nil star_Name)) (me_callB c_len (by rfl) n_len MS.boot_len (ma_cons (mv 7) ma_nil star_Name))) (fun _ _ => rfl)) me_int))
    (mss_cons (ms_if (MW.mt (mw_and (mt_cmp o_lt (mv 6) (me_callB c_len (by rfl) n_len MS.boot_len (ma_cons (mv 7) ma_nil star_Name)) (nomark _)) (mw_and1 (mt_cmp o_ge (mv 1) (me_op o_pow me_int me_int) (nomark _))))) (mss_one (ms_ret (me_op o_sub (mv 1) (me_op o_pow me_int me_int)))) mss_nil)
    (mss_cons (ms_set (i := 2) sc_0a.nd rfl (by first | exact Or.inl rfl | exact Or.inr rfl) me_int)
    (mss_cons (ms_set (i := 3) sc_0a.nd rfl (by first | exact Or.inl rfl | exact Or.inr rfl) (me_op o_mod (me_callTy c_int (by rfl) n_int MS.boot_int (ma_cons (me_op o_add (me_op o_add (me_op o_mul (mv 1) me_int) (me_op o_mul me_int (mv 6))) me_int) ma_nil star_BinOp)) (mv 2)))
    (mss_cons (ms_set (i := 4) sc_0a.nd rfl (by first | exact Or.inl rfl | exact Or.inr rfl) (mv 3))
    (mss_cons (ms_for PassesOwn.never rfl (mi_range1 (by rfl) n_range (ma_cons me_int ma_nil star_Constant)) (mg_name (i := 5) sc_0a.nd rfl (by first | exact Or.inl rfl | exact Or.inr rfl)) (mss_cons (ms_set (i := 3) sc_0a.nd rfl (by first | exact Or.inl rfl | exact Or.inr rfl) (me_op o_mod (me_callTy c_int (by rfl) n_int MS.boot_int (ma_cons (me_op o_add (me_op o_add (me_op o_mul (mv 3) (mv 3)) (me_op o_mul (me_op o_mul me_int (me_op o_add (mv 5) me_int)) (me_op o_add (mv 6) me_int))) (mv 1)) ma_nil star_BinOp)) (mv 2)))
    (mss_one (ms_set (i := 4) sc_0a.nd rfl (by first | exact Or.inl rfl | exact Or.inr rfl) (me_op o_add (me_op o_mul (mv 4) (mv 2)) (mv 3))))))
    (mss_one (ms_ret (mv 4)))))))))))
abbrev H_law_draw (P : Program) (w : World) (K : PySem.W.Frag) (mg : Str → Option Value) (base : Heap) (a : Addr) : Prop := Bn K mg "_law_draw" ss_09 ["pen", "bound"] a fun d => FnG P w K mg base 2 a d ["pen", "bound"] F_law_draw
theorem ok_09 {f : Addr} (a : At K "_law_draw" ss_09 f) (m_09 : mg "_law_draw" = some (.ref f)) {a_law_fresh : Addr} (h_law_fresh : H_law_fresh P w K mg base a_law_fresh) (n_int : mg "int" = none) : H_law_draw P w K mg base f := by
  obtain ⟨fd, fn⟩ := a.2
  have b_09 := fn.binds (ps := ["pen", "bound"]) fun _ _ _ _ _ _ us hl => match us, hl with | [_, _], _ => rfl
  obtain ⟨d_law_fresh, f_0a, m_0a, b_0a, g_0a⟩ := h_law_fresh
  refine ⟨fd, fn, m_09, b_09, ?_⟩
  refine fnG_of fn sc_09 fun cdv A outer s H hr hgd => ⟨M_law_draw, ?_, den_does⟩
  have hu := hr.units
  have hud := L2.hu_of hr
  have hu80 := room80 hr
  have hu65 := Nat.lt_of_le_of_lt (Nat.add_le_add_left (show 65 ≤ 80 by decide) _) hu80
  exact (mss_cons (ms_if (mt_cmp o_lt (me_ix (mv 0) me_int (fun _ _ => rfl)) (mv 1) (nomark _)) (mss_one (ms_asg (me_call (g_0a.mono (by decide)) hr hgd (by rfl) m_0a f_0a.kp b_0a (fun _ _ _ => den_len) (ma_cons (mv 0) ma_nil star_Name)) (mg_sub (mv 0) me_int))) mss_nil)
    (mss_cons (ms_set (i := 2) sc_09.nd rfl (by first | exact Or.inl rfl | exact Or.inr rfl) (me_op o_mod (me_callTy c_int (by rfl) n_int MS.boot_int (ma_cons (me_ix (mv 0) me_int (fun _ _ => rfl)) ma_nil star_Subscript)) (mv 1)))
    (mss_cons (ms_asg (me_op o_divW (me_callTy c_int (by rfl) n_int MS.boot_int (ma_cons (me_ix (mv 0) me_int (fun _ _ => rfl)) ma_nil star_Subscript)) (mv 1)) (mg_sub (mv 0) me_int))
    (mss_one (ms_ret (mv 2))))))
abbrev H_law_one_of (P : Program) (w : World) (K : PySem.W.Frag) (mg : Str → Option Value) (base : Heap) (a : Addr) : Prop := Bn K mg "_law_one_of" ss_0f ["pen", "some"] a fun d => FnG P w K mg base 3 a d ["pen", "some"] F_law_one_of
theorem ok_0f {f : Addr} (a : At K "_law_one_of" ss_0f f) (m_0f : mg "_law_one_of" = some (.ref f)) {a_law_draw : Addr} (h_law_draw : H_law_draw P w K mg base a_law_draw) (n_len : mg "len" = none) : H_law_one_of P w K mg base f := by
  obtain ⟨fd, fn⟩ := a.2
  have b_0f := fn.binds (ps := ["pen", "some"]) fun _ _ _ _ _ _ us hl => match us, hl with | [_, _], _ => rfl
  obtain ⟨d_law_draw, f_09, m_09, b_09, g_09⟩ := h_law_draw
  refine ⟨fd, fn, m_0f, b_0f, ?_⟩
  refine fnG_of fn sc_0f fun cdv A outer s H hr hgd => ⟨M_law_one_of, ?_, den_does⟩
  have hu := hr.units
  have hud := L2.hu_of hr
  have hu80 := room80 hr
  have hu65 := Nat.lt_of_le_of_lt (Nat.add_le_add_left (show 65 ≤ 80 by decide) _) hu80
  exact (mss_one (ms_ret (me_ix (mv 1) (me_call (g_09.mono (by decide)) hr hgd (by rfl) m_09 f_09.kp b_09 (fun _ _ _ => den_len) (ma_cons (mv 0) (ma_cons (me_callB c_len (by rfl) n_len MS.boot_len (ma_cons (mv 1) ma_nil star_Name)) ma_nil star_Call) star_Name)) (fun _ _ => rfl))))
abbrev H_law_two_places (P : Program) (w : World) (K : PySem.W.Frag) (mg : Str → Option Value) (base : Heap) (a : Addr) : Prop := Bn K mg "_law_two_places" ss_0k ["pen", "places"] a fun d => FnG P w K mg base 3 a d ["pen", "places"] F_law_two_places
theorem ok_0k {f : Addr} (a : At K "_law_two_places" ss_0k f) (m_0k : mg "_law_two_places" = some (.ref f)) {a_law_draw : Addr} (h_law_draw : H_law_draw P w K mg base a_law_draw) (n_int : mg "int" = none) : H_law_two_places P w K mg base f := by
  obtain ⟨fd, fn⟩ := a.2
  have b_0k := fn.binds (ps := ["pen", "places"]) fun _ _ _ _ _ _ us hl => match us, hl with | [_, _], _ => rfl
  obtain ⟨d_law_draw, f_09, m_09, b_09, g_09⟩ := h_law_draw
  refine ⟨fd, fn, m_0k, b_0k, ?_⟩
  refine fnG_of fn sc_0k fun cdv A outer s H hr hgd => ⟨M_law_two_places, ?_, den_does⟩
  have hu := hr.units
  have hud := L2.hu_of hr
  have hu80 := room80 hr
  have hu65 := Nat.lt_of_le_of_lt (Nat.add_le_add_left (show 65 ≤ 80 by decide) _) hu80
  exact (mss_cons (ms_set (i := 2) sc_0k.nd rfl (by first | exact Or.inl rfl | exact Or.inr rfl) (me_call (g_09.mono (by decide)) hr hgd (by rfl) m_09 f_09.kp b_09 (fun _ _ _ => den_len) (ma_cons (mv 0) (ma_cons (mv 1) ma_nil star_Name) star_Name)))
    (mss_one (ms_ret (me_tup (ma_cons (mv 2) (ma_cons (me_op o_mod (me_callTy c_int (by rfl) n_int MS.boot_int (ma_cons (me_op o_add (me_op o_add (mv 2) me_int) (me_call (g_09.mono (by decide)) hr hgd (by rfl) m_09 f_09.kp b_09 (fun _ _ _ => den_len) (ma_cons (mv 0) (ma_cons (me_op o_sub (mv 1) me_int) ma_nil star_BinOp) star_Name))) ma_nil star_BinOp)) (mv 1)) ma_nil star_BinOp) star_Name)))))
abbrev H_law_mine (P : Program) (w : World) (K : PySem.W.Frag) (mg : Str → Option Value) (base : Heap) (a : Addr) : Prop := Bn K mg "_law_mine" ss_0e ["pen", "most", "many"] a fun d => FnG P w K mg base 4 a d ["pen", "most", "many"] F_law_mine
theorem ok_0e {f : Addr} (a : At K "_law_mine" ss_0e f) (m_0e : mg "_law_mine" = some (.ref f)) {a_law_draw : Addr} (h_law_draw : H_law_draw P w K mg base a_law_draw) {a_law_one_of : Addr} (h_law_one_of : H_law_one_of P w K mg base a_law_one_of) {a_law_two_places : Addr} (h_law_two_places : H_law_two_places P w K mg base a_law_two_places) (n_len : mg "len" = none) (n_min : mg "min" = none) (n_range : mg "range" = none) (n_tuple : mg "tuple" = none) : H_law_mine P w K mg base f := by
  obtain ⟨fd, fn⟩ := a.2
  have b_0e := fn.binds (ps := ["pen", "most", "many"]) fun _ _ _ _ _ _ us hl => match us, hl with | [_, _, _], _ => rfl
  obtain ⟨d_law_draw, f_09, m_09, b_09, g_09⟩ := h_law_draw
  obtain ⟨d_law_one_of, f_0f, m_0f, b_0f, g_0f⟩ := h_law_one_of
  obtain ⟨d_law_two_places, f_0k, m_0k, b_0k, g_0k⟩ := h_law_two_places
  refine ⟨fd, fn, m_0e, b_0e, ?_⟩
  refine fnG_of fn sc_0e fun cdv A outer s H hr hgd => ⟨M_law_mine, ?_, den_does⟩
  have hu := hr.units
  have hud := L2.hu_of hr
  have hu80 := room80 hr
  have hu65 := Nat.lt_of_le_of_lt (Nat.add_le_add_left (show 65 ≤ 80 by decide) _) hu80
  exact (mss_cons (ms_set (i := 3) sc_0e.nd rfl (by first | exact Or.inl rfl | exact Or.inr rfl) (me_call (g_0f.mono (by decide)) hr hgd (by rfl) m_0f f_0f.kp b_0f (fun _ _ _ => den_len) (ma_cons (mv 0) (ma_cons (me_lstV (ma_cons me_int (ma_cons me_int (ma_cons (mv 1) (ma_cons (mv 1) (ma_cons (me_op o_add me_int (me_call (g_09.mono (by decide)) hr hgd (by rfl) m_09 f_09.kp b_09 (fun _ _ _ => den_len) (ma_cons (mv 0) (ma_cons (me_op o_sub (mv 1) me_int) ma_nil star_BinOp) star_Name))) ma_nil star_BinOp) star_Name) star_Name) star_Constant) star_Constant)) ma_nil star_List) star_Name)))
    (mss_cons (ms_par (i := 3) (j := 6) rfl sc_0e.nd rfl rfl (by decide) rfl rfl (ma_cons (me_callB (c_min rfl) (by rfl) n_min MS.boot_min (ma_cons (mv 3) (ma_cons (me_op o_add (mv 2) me_int) ma_nil star_BinOp) star_Name)) (ma_cons (me_lst ma_nil) ma_nil)))
    (mss_cons (ms_for PassesOwn.never rfl (mi_range2 (by rfl) n_range (ma_cons me_int (ma_cons (mv 3) ma_nil star_Name) star_Constant)) (mg_name (i := 4) sc_0e.nd rfl (by first | exact Or.inl rfl | exact Or.inr rfl)) (mss_cons (ms_set (i := 7) sc_0e.nd rfl (by first | exact Or.inl rfl | exact Or.inr rfl) (me_tup (ma_cons (mv 4) (ma_cons (me_call (g_09.mono (by decide)) hr hgd (by rfl) m_09 f_09.kp b_09 (fun _ _ _ => den_len) (ma_cons (mv 0) (ma_cons (mv 4) ma_nil star_Name) star_Name)) ma_nil star_Call) star_Name)))
    (mss_one (ms_expr (me_app (mv 6) (ma_cons (me_ifExp (mt_cmp (o_eq hu) (me_call (g_09.mono (by decide)) hr hgd (by rfl) m_09 f_09.kp b_09 (fun _ _ _ => den_len) (ma_cons (mv 0) (ma_cons me_int ma_nil star_Constant) star_Name)) me_int (nomark _)) (mv 7) (me_revT (mv 7))) ma_nil star_IfExp))))))
    (mss_cons (ms_for PassesOwn.never rfl (mi_range1 (by rfl) n_range (ma_cons (me_call (g_09.mono (by decide)) hr hgd (by rfl) m_09 f_09.kp b_09 (fun _ _ _ => den_len) (ma_cons (mv 0) (ma_cons (me_op o_add (me_op o_sub (mv 2) (me_callB c_len (by rfl) n_len MS.boot_len (ma_cons (mv 6) ma_nil star_Name))) me_int) ma_nil star_BinOp) star_Name)) ma_nil star_Call)) (mg_name (i := 5) sc_0e.nd rfl (by first | exact Or.inl rfl | exact Or.inr rfl)) (mss_one (ms_expr (me_app (mv 6) (ma_cons (me_call (g_0k.mono (by decide)) hr hgd (by rfl) m_0k f_0k.kp b_0k (fun _ _ _ => den_len) (ma_cons (mv 0) (ma_cons (mv 3) ma_nil star_Name) star_Name)) ma_nil star_Call)))))
    (mss_cons (ms_asg (me_call (g_0k.mono (by decide)) hr hgd (by rfl) m_0k f_0k.kp b_0k (fun _ _ _ => den_len) (ma_cons (mv 0) (ma_cons (mv 3) ma_nil star_Name) star_Name)) (mg_tup rfl (mgs_cons (mg_name (i := 8) sc_0e.nd rfl (by first | exact Or.inl rfl | exact Or.inr rfl)) (mgs_cons (mg_name (i := 9) sc_0e.nd rfl (by first | exact Or.inl rfl | exact Or.inr rfl)) mgs_nil))))
    (mss_one (ms_ret (me_tup (ma_cons (mv 3) (ma_cons (me_callTy c_tuple (by rfl) n_tuple MS.boot_tuple (ma_cons (mv 6) ma_nil star_Name)) (ma_cons (mv 8) (ma_cons (mv 9) ma_nil star_Name) star_Name) star_Call) star_Name)))))))))
abbrev H_law_inner (P : Program) (w : World) (K : PySem.W.Frag) (mg : Str → Option Value) (base : Heap) (a : Addr) : Prop := Bn K mg "_law_inner" ss_0b ["mine"] a fun d => FnG P w K mg base 1 a d ["mine"] F_law_inner
theorem ok_0b {f : Addr} (a : At K "_law_inner" ss_0b f) (m_0b : mg "_law_inner" = some (.ref f)) (n_range : mg "range" = none) : H_law_inner P w K mg base f := by
  obtain ⟨fd, fn⟩ := a.2
  have b_0b := fn.binds (ps := ["mine"]) fun _ _ _ _ _ _ us hl => match us, hl with | [_], _ => rfl
  refine ⟨fd, fn, m_0b, b_0b, ?_⟩
  refine fnG_of fn sc_0b fun cdv A outer s H hr hgd => ⟨M_law_inner, ?_, den_does⟩
  have hu := hr.units
  have hud := L2.hu_of hr
  have hu80 := room80 hr
  have hu65 := Nat.lt_of_le_of_lt (Nat.add_le_add_left (show 65 ≤ 80 by decide) _) hu80
  exact (mss_one (ms_ret (me_fz (me_lc (own := [("x", 1)]) (e := (mVar 1)) (is := [1]) rfl sc_0b.nd (mi_range1 (by rfl) n_range (ma_cons (me_ix (mv 0) me_int (fun _ _ => rfl)) ma_nil star_Subscript)) (blkOk_by (own := [("x", 1)]) (N := N_law_inner) (sc := defScope ss_0b) (by decide +kernel)) (fun _ _ _ _ _ => (mgl_name (i := 1) sc_0b.nd rfl (by first | exact Or.inl rfl | exact Or.inr rfl))) (fun _ _ _ _ _ => (mts_one (mt_cmp o_notIn (mv 1) (me_slice (mv 0) (mp_some me_int) mp_none) (by rfl)))) (fun _ _ _ _ _ => (mv 1)) (by decide)))))
abbrev H_law_made (P : Program) (w : World) (K : PySem.W.Frag) (mg : Str → Option Value) (base : Heap) (a : Addr) : Prop := Bn K mg "_law_made" ss_0d ["mine", "joints", "reduction"] a fun d => FnG P w K mg base 2 a d ["mine", "joints", "reduction"] F_law_made
theorem ok_0d {f : Addr} (a : At K "_law_made" ss_0d f) (m_0d : mg "_law_made" = some (.ref f)) {a_law_inner : Addr} (h_law_inner : H_law_inner P w K mg base a_law_inner) (n_len : mg "len" = none) (n_list : mg "list" = none) (n_sorted : mg "sorted" = none) (n_tuple : mg "tuple" = none) : H_law_made P w K mg base f := by
  obtain ⟨fd, fn⟩ := a.2
  have b_0d := fn.binds (ps := ["mine", "joints", "reduction"]) fun _ _ _ _ _ _ us hl => match us, hl with | [_, _, _], _ => rfl
  obtain ⟨d_law_inner, f_0b, m_0b, b_0b, g_0b⟩ := h_law_inner
  refine ⟨fd, fn, m_0d, b_0d, ?_⟩
  refine fnG_of fn sc_0d fun cdv A outer s H hr hgd => ⟨M_law_made, ?_, den_does⟩
  have hu := hr.units
  have hud := L2.hu_of hr
  have hu80 := room80 hr
  have hu65 := Nat.lt_of_le_of_lt (Nat.add_le_add_left (show 65 ≤ 80 by decide) _) hu80
  exact (mss_cons (ms_asg (me_tup (ma_cons (me_call (g_0b.mono (by decide)) hr hgd (by rfl) m_0b f_0b.kp b_0b (fun _ _ _ => den_len) (ma_cons (mv 0) ma_nil star_Name)) (ma_cons (me_ix (mv 2) me_int (fun _ _ => rfl)) ma_nil))) (mg_tup rfl (mgs_cons (mg_name (i := 6) sc_0d.nd rfl (by first | exact Or.inl rfl | exact Or.inr rfl)) (mgs_cons (mg_name (i := 7) sc_0d.nd rfl (by first | exact Or.inl rfl | exact Or.inr rfl)) mgs_nil))))
    (mss_cons (ms_if (mt_cmp (o_eqS hu) (me_ix (mv 2) me_int (fun _ _ => rfl)) me_str (nomark _)) (mss_cons (ms_asg (me_slice (mv 2) (mp_some me_int) mp_none) (mg_tup rfl (mgs_cons (mg_name (i := 10) sc_0d.nd rfl (by first | exact Or.inl rfl | exact Or.inr rfl)) (mgs_cons (mg_name (i := 11) sc_0d.nd rfl (by first | exact Or.inl rfl | exact Or.inr rfl)) mgs_nil))))
    (mss_cons (ms_if (MW.mt (mw_or (mt_cmp o_ge (mv 10) (mv 11) (nomark _)) (mw_or (mt_cmp (o_notInD hud) (mv 10) (mv 1) (by rfl)) (mw_or1 (mt_cmp (o_notInD hud) (mv 11) (mv 1) (by rfl)))))) (mss_one (ms_ret (me_lstV ma_nil))) mss_nil)
    (mss_cons (ms_if (mt_cmp (o_ne hu) (me_callB (c_fz c_sortedTI) (by rfl) n_sorted MS.boot_sorted (ma_cons (me_ixD hud (mv 1) (mv 10) (fun _ _ => rfl) (fun _ _ => rfl)) ma_nil star_Subscript)) (me_callB (c_fz c_sortedTI) (by rfl) n_sorted MS.boot_sorted (ma_cons (me_ixD hud (mv 1) (mv 11) (fun _ _ => rfl) (fun _ _ => rfl)) ma_nil star_Subscript)) (nomark _)) (mss_one (ms_ret (me_lstV ma_nil))) mss_nil)
    (mss_one (ms_ret (me_lstV (ma_cons (me_lstV (ma_cons (mv 10) (ma_cons (mv 11) ma_nil star_Name) star_Name)) (ma_cons (me_ixD hud (mv 1) (mv 10) (fun _ _ => rfl) (fun _ _ => rfl)) ma_nil star_Subscript) star_List))))))) mss_nil)
    (mss_cons (ms_if (mt_cmp (o_eqS hu) (me_ix (mv 2) me_int (fun _ _ => rfl)) me_str (nomark _)) (mss_cons (ms_setLcF (j := 3) (own := [("number", 4)]) (e := (mVar 4)) (is := [4]) rfl sc_0d.nd rfl rfl (sw_true rfl rfl rfl (by decide +kernel)) (mi_items (me_callB (c_fz (c_sortedD rfl)) (by rfl) n_sorted MS.boot_sorted (ma_cons (mv 1) ma_nil star_Name))) (blkOk_by (own := [("number", 4)]) (N := N_law_made) (sc := defScope ss_0d) (by decide +kernel)) (fun _ _ _ _ _ => (mgl_name (i := 4) sc_0d.nd rfl (by first | exact Or.inl rfl | exact Or.inr rfl))) (fun _ _ _ _ _ => (mts_one (mt_cmp o_in (mv 7) (me_ixD hud (mv 1) (mv 4) (fun _ _ => rfl) (fun _ _ => rfl)) (by rfl)))) (fun _ _ _ _ _ => (mv 4)) (by decide))
    (mss_cons (ms_setLcF (j := 8) (own := [("number", 4)]) (e := (mIf (mB (mBin fEq (mBin fIx (mBin fIxD (mVar 1) (mVar 4)) (mC (.int 0))) (mVar 7))) (mBin fIx (mBin fIxD (mVar 1) (mVar 4)) (mC (.int 1))) (mBin fIx (mBin fIxD (mVar 1) (mVar 4)) (mC (.int 0))))) (is := [4]) rfl sc_0d.nd rfl rfl (sw_true rfl rfl rfl (by decide +kernel)) (mi_items (mv 3)) (blkOk_by (own := [("number", 4)]) (N := N_law_made) (sc := defScope ss_0d) (by decide +kernel)) (fun _ _ _ _ _ => (mgl_name (i := 4) sc_0d.nd rfl (by first | exact Or.inl rfl | exact Or.inr rfl))) (fun _ _ _ _ _ => mts_nil) (fun _ _ _ _ _ => (me_ifExp (mt_cmp (o_eq hu) (me_ix (me_ixD hud (mv 1) (mv 4) (fun _ _ => rfl) (fun _ _ => rfl)) me_int (fun _ _ => rfl)) (mv 7) (nomark _)) (me_ix (me_ixD hud (mv 1) (mv 4) (fun _ _ => rfl) (fun _ _ => rfl)) me_int (fun _ _ => rfl)) (me_ix (me_ixD hud (mv 1) (mv 4) (fun _ _ => rfl) (fun _ _ => rfl)) me_int (fun _ _ => rfl)))) (by decide))
    (mss_cons (ms_if (MW.mt (mw_or (mt_cmp o_notIn (mv 7) (mv 6) (by rfl)) (mw_or (mt_cmp (o_ne hu) (me_callB c_len (by rfl) n_len MS.boot_len (ma_cons (mv 3) ma_nil star_Name)) me_int (nomark _)) (mw_or1 (mt_cmp (o_eq hu) (me_ix (mv 8) me_int (fun _ _ => rfl)) (me_ix (mv 8) me_int (fun _ _ => rfl)) (nomark _)))))) (mss_one (ms_ret (me_lstV ma_nil))) mss_nil)
    (mss_one (ms_ret (me_lstV (ma_cons (mv 3) (ma_cons (me_callTy c_tuple (by rfl) n_tuple MS.boot_tuple (ma_cons (mv 8) ma_nil star_Name)) ma_nil star_Call) star_Name))))))) mss_nil)
    (mss_cons (ms_asg (me_tup (ma_cons (me_ix (mv 2) me_int (fun _ _ => rfl)) (ma_cons (me_lst ma_nil) ma_nil))) (mg_tup rfl (mgs_cons (mg_name (i := 9) sc_0d.nd rfl (by first | exact Or.inl rfl | exact Or.inr rfl)) (mgs_cons (mg_name (i := 5) sc_0d.nd rfl (by first | exact Or.inl rfl | exact Or.inr rfl)) mgs_nil))))
    (mss_cons (ms_setLcF (j := 3) (own := [("number", 4)]) (e := (mVar 4)) (is := [4]) rfl sc_0d.nd rfl rfl (sw_true rfl rfl rfl (by decide +kernel)) (mi_items (me_callB (c_fz (c_sortedD rfl)) (by rfl) n_sorted MS.boot_sorted (ma_cons (mv 1) ma_nil star_Name))) (blkOk_by (own := [("number", 4)]) (N := N_law_made) (sc := defScope ss_0d) (by decide +kernel)) (fun _ _ _ _ _ => (mgl_name (i := 4) sc_0d.nd rfl (by first | exact Or.inl rfl | exact Or.inr rfl))) (fun _ _ _ _ _ => (mts_one (MW.mt (mw_or (mt_cmp o_in (me_ix (me_ixD hud (mv 1) (mv 4) (fun _ _ => rfl) (fun _ _ => rfl)) me_int (fun _ _ => rfl)) (mv 9) (by rfl)) (mw_or1 (mt_cmp o_in (me_ix (me_ixD hud (mv 1) (mv 4) (fun _ _ => rfl) (fun _ _ => rfl)) me_int (fun _ _ => rfl)) (mv 9) (by rfl))))))) (fun _ _ _ _ _ => (mv 4)) (by decide))
    (mss_cons (ms_for PassesOwn.never rfl (mi_items (mv 3)) (mg_name (i := 4) sc_0d.nd rfl (by first | exact Or.inl rfl | exact Or.inr rfl)) (mss_one (ms_expr (me_extV (mv 5) (ma_cons (me_callTy (c_fz c_list) (by rfl) n_list MS.boot_list (ma_cons (me_ixD hud (mv 1) (mv 4) (fun _ _ => rfl) (fun _ _ => rfl)) ma_nil star_Subscript)) ma_nil star_Call)))))
    (mss_cons (ms_setLc (j := 5) (own := [("end", 12)]) (e := (mVar 12)) (is := [12]) rfl sc_0d.nd rfl rfl (sw_true rfl rfl rfl (by decide +kernel)) (mi_items (mv 5)) (blkOk_by (own := [("end", 12)]) (N := N_law_made) (sc := defScope ss_0d) (by decide +kernel)) (fun _ _ _ _ _ => (mgl_name (i := 12) sc_0d.nd rfl (by first | exact Or.inl rfl | exact Or.inr rfl))) (fun _ _ _ _ _ => (mts_one (MW.mt (mw_and (mt_cmp o_notIn (mv 12) (mv 9) (by rfl)) (mw_and1 (mt_cmp (o_ne hu) (mv 12) (mv 7) (nomark _))))))) (fun _ _ _ _ _ => (mv 12)) (by decide))
    (mss_cons (ms_if (MW.mt (mw_or (mt_cmp o_in (mv 7) (mv 9) (by rfl)) (mw_or (mt_cmp (o_eq hu) (mv 3) (me_lstV ma_nil) (nomark _)) (mw_or1 (mt_cmp (o_ne hu) (mv 5) (me_lstV ma_nil) (nomark _)))))) (mss_one (ms_ret (me_lstV ma_nil))) mss_nil)
    (mss_cons (ms_if (mt_cmp (o_ne hu) (me_fz (me_lc (own := [("place", 13)]) (e := (mVar 13)) (is := [13]) rfl sc_0d.nd (mi_items (mv 9)) (blkOk_by (own := [("place", 13)]) (N := N_law_made) (sc := defScope ss_0d) (by decide +kernel)) (fun _ _ _ _ _ => (mgl_name (i := 13) sc_0d.nd rfl (by first | exact Or.inl rfl | exact Or.inr rfl))) (fun _ _ _ _ _ => (mts_one (mt_cmp o_notIn (mv 13) (mv 6) (by rfl)))) (fun _ _ _ _ _ => (mv 13)) (by decide))) (me_lstV ma_nil) (nomark _)) (mss_one (ms_ret (me_lstV ma_nil))) mss_nil)
    (mss_one (ms_ret (me_lstV (ma_cons (mv 3) (ma_cons me_non ma_nil star_Constant) star_Name)))))))))))))
abbrev H_law_reduced_due (P : Program) (w : World) (K : PySem.W.Frag) (mg : Str → Option Value) (base : Heap) (a : Addr) : Prop := Bn K mg "_law_reduced_due" ss_0h ["mine", "reductions"] a fun d => FnG P w K mg base 3 a d ["mine", "reductions"] F_law_reduced_due
theorem ok_0h {f : Addr} (a : At K "_law_reduced_due" ss_0h f) (m_0h : mg "_law_reduced_due" = some (.ref f)) {a_law_made : Addr} (h_law_made : H_law_made P w K mg base a_law_made) (n_dict : mg "dict" = none) (n_enumerate : mg "enumerate" = none) (n_len : mg "len" = none) (n_sorted : mg "sorted" = none) : H_law_reduced_due P w K mg base f := by
  obtain ⟨fd, fn⟩ := a.2
  have b_0h := fn.binds (ps := ["mine", "reductions"]) fun _ _ _ _ _ _ us hl => match us, hl with | [_, _], _ => rfl
  obtain ⟨d_law_made, f_0d, m_0d, b_0d, g_0d⟩ := h_law_made
  refine ⟨fd, fn, m_0h, b_0h, ?_⟩
  refine fnG_of fn sc_0h fun cdv A outer s H hr hgd => ⟨M_law_reduced_due, ?_, den_does⟩
  have hu := hr.units
  have hud := L2.hu_of hr
  have hu80 := room80 hr
  have hu65 := Nat.lt_of_le_of_lt (Nat.add_le_add_left (show 65 ≤ 80 by decide) _) hu80
  exact (mss_cons (ms_par (i := 3) (j := 4) rfl sc_0h.nd rfl rfl (by decide) rfl rfl (ma_cons (me_callTy (c_dictP rfl) (by rfl) n_dict MS.boot_dict (ma_cons (me_fz (me_lc (own := [("at", 5), ("way", 10)]) (e := (mTup (mCons (mVar 5) (mCons (mVar 10) mNil)))) (is := [5, 10]) rfl sc_0h.nd (mi_enum (by rfl) n_enumerate (ma_cons (me_ix (mv 0) me_int (fun _ _ => rfl)) ma_nil star_Subscript)) (blkOk_by (own := [("at", 5), ("way", 10)]) (N := N_law_reduced_due) (sc := defScope ss_0h) (by decide +kernel)) (fun _ _ _ _ _ => (mgl_tup rfl (mgsl_cons (mgl_name (i := 5) sc_0h.nd rfl (by first | exact Or.inl rfl | exact Or.inr rfl)) (mgsl_cons (mgl_name (i := 10) sc_0h.nd rfl (by first | exact Or.inl rfl | exact Or.inr rfl)) mgsl_nil)))) (fun _ _ _ _ _ => mts_nil) (fun _ _ _ _ _ => (me_tup (ma_cons (mv 5) (ma_cons (mv 10) ma_nil star_Name) star_Name))) (by decide))) ma_nil star_ListComp)) (ma_cons (me_callB c_len (by rfl) n_len MS.boot_len (ma_cons (me_ix (mv 0) me_int (fun _ _ => rfl)) ma_nil star_Subscript)) ma_nil)))
    (mss_cons (ms_for PassesOwn.never rfl (mi_enum (by rfl) n_enumerate (ma_cons (mv 1) ma_nil star_Name)) (mg_tup rfl (mgs_cons (mg_name (i := 5) sc_0h.nd rfl (by first | exact Or.inl rfl | exact Or.inr rfl)) (mgs_cons (mg_name (i := 6) sc_0h.nd rfl (by first | exact Or.inl rfl | exact Or.inr rfl)) mgs_nil))) (mss_cons (ms_set (i := 7) sc_0h.nd rfl (by first | exact Or.inl rfl | exact Or.inr rfl) (me_call (g_0d.mono (by decide)) hr hgd (by rfl) m_0d f_0d.kp b_0d (fun _ _ _ => den_len) (ma_cons (mv 0) (ma_cons (mv 3) (ma_cons (mv 6) ma_nil star_Name) star_Name) star_Name)))
    (mss_cons (ms_if (mt_cmp (o_eq hu) (mv 7) (me_lstV ma_nil) (nomark _)) (mss_one (ms_ret (mv 5))) mss_nil)
    (mss_cons (ms_for PassesOwn.never rfl (mi_items (me_ix (mv 7) me_int (fun _ _ => rfl))) (mg_name (i := 8) sc_0h.nd rfl (by first | exact Or.inl rfl | exact Or.inr rfl)) (mss_one (ms_expr (me_dpop (mv 3) (mv 8) ⟨by rfl, by rfl, by rfl, by rfl⟩))))
    (mss_one (ms_if (mt_cmp o_isNotN (me_ix (mv 7) me_int (fun _ _ => rfl)) me_non (nomark _)) (mss_cons (ms_asg (me_ix (mv 7) me_int (fun _ _ => rfl)) (mg_dict hud (mv 3) (mv 4)))
    (mss_one (ms_set (i := 4) sc_0h.nd rfl (by first | exact Or.inl rfl | exact Or.inr rfl) (me_op o_add (mv 4) me_int)))) mss_nil))))))
    (mss_cons (ms_setVals (i := 2) (j := 3) (own := [("joint", 9)]) (e := (mCall (cFz cSortedTI) (mCons (mVar 9) mNil))) (is := [9]) rfl sc_0h.nd rfl rfl (sw_true rfl rfl rfl (by decide +kernel)) rfl (by first | exact Or.inl rfl | exact Or.inr (Or.inl rfl) | exact Or.inr (Or.inr rfl)) (blkOk_by (own := [("joint", 9)]) (N := N_law_reduced_due) (sc := defScope ss_0h) (by decide +kernel)) (fun _ _ _ _ _ => (mgl_name (i := 9) sc_0h.nd rfl (by first | exact Or.inl rfl | exact Or.inr rfl))) (fun _ _ _ _ _ => mts_nil) (fun _ _ _ _ _ => (me_callB (c_fz c_sortedTI) (by rfl) n_sorted MS.boot_sorted (ma_cons (mv 9) ma_nil star_Name))) (by decide))
    (mss_one (ms_ret (me_ifExp (mt_cmp (o_eq hu) (mv 2) (me_lstV (ma_cons (me_callB (c_fz c_sortedTI) (by rfl) n_sorted MS.boot_sorted (ma_cons (me_slice (mv 0) (mp_some me_int) mp_none) ma_nil star_Subscript)) ma_nil star_Call)) (nomark _)) me_non (me_callB c_len (by rfl) n_len MS.boot_len (ma_cons (mv 1) ma_nil star_Name))))))))
abbrev H_law_loose (P : Program) (w : World) (K : PySem.W.Frag) (mg : Str → Option Value) (base : Heap) (a : Addr) : Prop := Bn K mg "_law_loose" ss_0c ["pen", "mine"] a fun d => FnG P w K mg base 4 a d ["pen", "mine"] F_law_loose
theorem ok_0c {f : Addr} (a : At K "_law_loose" ss_0c f) (m_0c : mg "_law_loose" = some (.ref f)) {a_law_draw : Addr} (h_law_draw : H_law_draw P w K mg base a_law_draw) {a_law_two_places : Addr} (h_law_two_places : H_law_two_places P w K mg base a_law_two_places) (n_range : mg "range" = none) (n_tuple : mg "tuple" = none) : H_law_loose P w K mg base f := by
  obtain ⟨fd, fn⟩ := a.2
  have b_0c := fn.binds (ps := ["pen", "mine"]) fun _ _ _ _ _ _ us hl => match us, hl with | [_, _], _ => rfl
  obtain ⟨d_law_draw, f_09, m_09, b_09, g_09⟩ := h_law_draw
  obtain ⟨d_law_two_places, f_0k, m_0k, b_0k, g_0k⟩ := h_law_two_places
  refine ⟨fd, fn, m_0c, b_0c, ?_⟩
  refine fnG_of fn sc_0c fun cdv A outer s H hr hgd => ⟨M_law_loose, ?_, den_does⟩
  have hu := hr.units
  have hud := L2.hu_of hr
  have hu80 := room80 hr
  have hu65 := Nat.lt_of_le_of_lt (Nat.add_le_add_left (show 65 ≤ 80 by decide) _) hu80
  exact (mss_cons (ms_if (mt_cmp o_gt (me_call (g_09.mono (by decide)) hr hgd (by rfl) m_09 f_09.kp b_09 (fun _ _ _ => den_len) (ma_cons (mv 0) (ma_cons me_int ma_nil star_Constant) star_Name)) me_int (nomark _)) (mss_one (ms_ret (mv 1))) mss_nil)
    (mss_cons (ms_setLcF (j := 2) (own := [("lap", 3)]) (e := (mCall F_law_two_places (mCons (mVar 0) (mCons (mBin fIx (mVar 1) (mC (.int 0))) mNil)))) (is := [3]) rfl sc_0c.nd rfl rfl (sw_true rfl rfl rfl (by decide +kernel)) (mi_range1 (by rfl) n_range (ma_cons (me_op o_add me_int (me_call (g_09.mono (by decide)) hr hgd (by rfl) m_09 f_09.kp b_09 (fun _ _ _ => den_len) (ma_cons (mv 0) (ma_cons me_int ma_nil star_Constant) star_Name))) ma_nil star_BinOp)) (blkOk_by (own := [("lap", 3)]) (N := N_law_loose) (sc := defScope ss_0c) (by decide +kernel)) (fun _ _ _ _ _ => (mgl_name (i := 3) sc_0c.nd rfl (by first | exact Or.inl rfl | exact Or.inr rfl))) (fun _ _ _ _ _ => mts_nil) (fun _ _ _ _ _ => (me_call (g_0k.mono (by decide)) hr hgd (by rfl) m_0k f_0k.kp b_0k (fun _ _ _ => den_len) (ma_cons (mv 0) (ma_cons (me_ix (mv 1) me_int (fun _ _ => rfl)) ma_nil star_Subscript) star_Name))) (by decide))
    (mss_one (ms_ret (me_tup (ma_cons (me_ix (mv 1) me_int (fun _ _ => rfl)) (ma_cons (me_callTy c_tuple (by rfl) n_tuple MS.boot_tuple (ma_cons (mv 2) ma_nil star_Name)) (ma_cons (me_ix (mv 1) me_int (fun _ _ => rfl)) (ma_cons (me_ix (mv 1) me_int (fun _ _ => rfl)) ma_nil star_Subscript) star_Subscript) star_Call) star_Subscript))))))
abbrev H_law_some_reduction (P : Program) (w : World) (K : PySem.W.Frag) (mg : Str → Option Value) (base : Heap) (a : Addr) : Prop := Bn K mg "_law_some_reduction" ss_0j ["pen", "mine", "number"] a fun d => FnG P w K mg base 4 a d ["pen", "mine", "number"] F_law_some_reduction
theorem ok_0j {f : Addr} (a : At K "_law_some_reduction" ss_0j f) (m_0j : mg "_law_some_reduction" = some (.ref f)) {a_law_draw : Addr} (h_law_draw : H_law_draw P w K mg base a_law_draw) {a_law_inner : Addr} (h_law_inner : H_law_inner P w K mg base a_law_inner) {a_law_one_of : Addr} (h_law_one_of : H_law_one_of P w K mg base a_law_one_of) (n_list : mg "list" = none) (n_range : mg "range" = none) (n_tuple : mg "tuple" = none) : H_law_some_reduction P w K mg base f := by
  obtain ⟨fd, fn⟩ := a.2
  have b_0j := fn.binds (ps := ["pen", "mine", "number"]) fun _ _ _ _ _ _ us hl => match us, hl with | [_, _, _], _ => rfl
  obtain ⟨d_law_draw, f_09, m_09, b_09, g_09⟩ := h_law_draw
  obtain ⟨d_law_inner, f_0b, m_0b, b_0b, g_0b⟩ := h_law_inner
  obtain ⟨d_law_one_of, f_0f, m_0f, b_0f, g_0f⟩ := h_law_one_of
  refine ⟨fd, fn, m_0j, b_0j, ?_⟩
  refine fnG_of fn sc_0j fun cdv A outer s H hr hgd => ⟨M_law_some_reduction, ?_, den_does⟩
  have hu := hr.units
  have hud := L2.hu_of hr
  have hu80 := room80 hr
  have hu65 := Nat.lt_of_le_of_lt (Nat.add_le_add_left (show 65 ≤ 80 by decide) _) hu80
  exact (mss_cons (ms_par (i := 6) (j := 7) rfl sc_0j.nd rfl rfl (by decide) rfl rfl (ma_cons (me_call (g_09.mono (by decide)) hr hgd (by rfl) m_09 f_09.kp b_09 (fun _ _ _ => den_len) (ma_cons (mv 0) (ma_cons me_int ma_nil star_Constant) star_Name)) (ma_cons (me_fz (me_listRg rfl (by rfl) n_list (by rfl) n_range (me_ix (mv 1) me_int (fun _ _ => rfl)))) ma_nil)))
    (mss_cons (ms_if (mt_cmp (o_eq hu) (mv 6) me_int (nomark _)) (mss_cons (ms_set (i := 8) sc_0j.nd rfl (by first | exact Or.inl rfl | exact Or.inr rfl) (me_call (g_09.mono (by decide)) hr hgd (by rfl) m_09 f_09.kp b_09 (fun _ _ _ => den_len) (ma_cons (mv 0) (ma_cons (mv 2) ma_nil star_Name) star_Name)))
    (mss_one (ms_ret (me_tup (ma_cons me_str (ma_cons (mv 8) (ma_cons (me_op o_add (me_op o_add (mv 8) me_int) (me_call (g_09.mono (by decide)) hr hgd (by rfl) m_09 f_09.kp b_09 (fun _ _ _ => den_len) (ma_cons (mv 0) (ma_cons me_int ma_nil star_Constant) star_Name))) ma_nil star_BinOp) star_Name) star_Constant))))) mss_nil)
    (mss_cons (ms_set (i := 3) sc_0j.nd rfl (by first | exact Or.inl rfl | exact Or.inr rfl) (me_call (g_0b.mono (by decide)) hr hgd (by rfl) m_0b f_0b.kp b_0b (fun _ _ _ => den_len) (ma_cons (mv 1) ma_nil star_Name)))
    (mss_cons (ms_if (MW.mt (mw_and (mt_cmp (o_eq hu) (mv 6) me_int (nomark _)) (mw_and1 (mt_cmp (o_ne hu) (mv 3) (me_lstV ma_nil) (nomark _))))) (mss_one (ms_ret (me_tup (ma_cons me_str (ma_cons (me_call (g_0f.mono (by decide)) hr hgd (by rfl) m_0f f_0f.kp b_0f (fun _ _ _ => den_len) (ma_cons (mv 0) (ma_cons (mv 3) ma_nil star_Name) star_Name)) ma_nil star_Call) star_Constant)))) mss_nil)
    (mss_cons (ms_set (i := 4) sc_0j.nd rfl (by first | exact Or.inl rfl | exact Or.inr rfl) (me_fz (me_lc (own := [("x", 5)]) (e := (mVar 5)) (is := [5]) rfl sc_0j.nd (mi_items (mv 3)) (blkOk_by (own := [("x", 5)]) (N := N_law_some_reduction) (sc := defScope ss_0j) (by decide +kernel)) (fun _ _ _ _ _ => (mgl_name (i := 5) sc_0j.nd rfl (by first | exact Or.inl rfl | exact Or.inr rfl))) (fun _ _ _ _ _ => (mts_one (mt_cmp (o_eq hu) (me_call (g_09.mono (by decide)) hr hgd (by rfl) m_09 f_09.kp b_09 (fun _ _ _ => den_len) (ma_cons (mv 0) (ma_cons me_int ma_nil star_Constant) star_Name)) me_int (nomark _)))) (fun _ _ _ _ _ => (mv 5)) (by decide))))
    (mss_cons (ms_set (i := 5) sc_0j.nd rfl (by first | exact Or.inl rfl | exact Or.inr rfl) (me_call (g_0f.mono (by decide)) hr hgd (by rfl) m_0f f_0f.kp b_0f (fun _ _ _ => den_len) (ma_cons (mv 0) (ma_cons (me_fz (me_lc (own := [("place", 9)]) (e := (mVar 9)) (is := [9]) rfl sc_0j.nd (mi_items (mv 7)) (blkOk_by (own := [("place", 9)]) (N := N_law_some_reduction) (sc := defScope ss_0j) (by decide +kernel)) (fun _ _ _ _ _ => (mgl_name (i := 9) sc_0j.nd rfl (by first | exact Or.inl rfl | exact Or.inr rfl))) (fun _ _ _ _ _ => (mts_one (mt_cmp o_notIn (mv 9) (mv 4) (by rfl)))) (fun _ _ _ _ _ => (mv 9)) (by decide))) ma_nil star_ListComp) star_Name)))
    (mss_one (ms_ret (me_ifExp (mt_cmp (o_ne hu) (mv 4) (me_lstV ma_nil) (nomark _)) (me_tup (ma_cons me_str (ma_cons (mv 5) (ma_cons (me_callTy c_tuple (by rfl) n_tuple MS.boot_tuple (ma_cons (mv 4) ma_nil star_Name)) ma_nil star_Call) star_Name) star_Constant)) (me_tup (ma_cons me_str (ma_cons me_int (ma_cons me_int ma_nil star_Constant) star_Constant) star_Constant)))))))))))
abbrev H_law_row (P : Program) (w : World) (K : PySem.W.Frag) (mg : Str → Option Value) (base : Heap) (a : Addr) : Prop := Bn K mg "_law_row" ss_0i ["pen", "mine"] a fun d => FnG P w K mg base 5 a d ["pen", "mine"] F_law_row
theorem ok_0i {f : Addr} (a : At K "_law_row" ss_0i f) (m_0i : mg "_law_row" = some (.ref f)) {a_law_reduced_due : Addr} (h_law_reduced_due : H_law_reduced_due P w K mg base a_law_reduced_due) {a_law_some_reduction : Addr} (h_law_some_reduction : H_law_some_reduction P w K mg base a_law_some_reduction) (n_int : mg "int" = none) (n_len : mg "len" = none) (n_range : mg "range" = none) (n_tuple : mg "tuple" = none) : H_law_row P w K mg base f := by
  obtain ⟨fd, fn⟩ := a.2
  have b_0i := fn.binds (ps := ["pen", "mine"]) fun _ _ _ _ _ _ us hl => match us, hl with | [_, _], _ => rfl
  obtain ⟨d_law_reduced_due, f_0h, m_0h, b_0h, g_0h⟩ := h_law_reduced_due
  obtain ⟨d_law_some_reduction, f_0j, m_0j, b_0j, g_0j⟩ := h_law_some_reduction
  refine ⟨fd, fn, m_0i, b_0i, ?_⟩
  refine fnG_of fn sc_0i fun cdv A outer s H hr hgd => ⟨M_law_row, ?_, den_does⟩
  have hu := hr.units
  have hud := L2.hu_of hr
  have hu80 := room80 hr
  have hu65 := Nat.lt_of_le_of_lt (Nat.add_le_add_left (show 65 ≤ 80 by decide) _) hu80
  exact (mss_cons (ms_par (i := 3) (j := 4) rfl sc_0i.nd rfl rfl (by decide) rfl rfl (ma_cons (me_lst ma_nil) (ma_cons (me_callB c_len (by rfl) n_len MS.boot_len (ma_cons (me_ix (mv 1) me_int (fun _ _ => rfl)) ma_nil star_Subscript)) ma_nil)))
    (mss_cons (ms_for PassesOwn.never rfl (mi_range1 (by rfl) n_range (ma_cons me_int ma_nil star_Constant)) (mg_name (i := 2) sc_0i.nd rfl (by first | exact Or.inl rfl | exact Or.inr rfl)) (mss_cons (ms_set (i := 5) sc_0i.nd rfl (by first | exact Or.inl rfl | exact Or.inr rfl) (me_call (g_0j.mono (by decide)) hr hgd (by rfl) m_0j f_0j.kp b_0j (fun _ _ _ => den_len) (ma_cons (mv 0) (ma_cons (mv 1) (ma_cons (mv 4) ma_nil star_Name) star_Name) star_Name)))
    (mss_one (ms_if (mt_cmp (o_inPT hu65) (me_call (g_0h.mono (by decide)) hr hgd (by rfl) m_0h f_0h.kp b_0h (fun _ _ _ => den_len) (ma_cons (mv 1) (ma_cons (me_callTy c_tuple (by rfl) n_tuple MS.boot_tuple (ma_cons (me_op o_addOV (mv 3) (me_lstV (ma_cons (mv 5) ma_nil star_Name))) ma_nil star_BinOp)) ma_nil star_Call) star_Name)) (me_tup (ma_cons me_non (ma_cons (me_op o_add (me_callB c_len (by rfl) n_len MS.boot_len (ma_cons (mv 3) ma_nil star_Name)) me_int) ma_nil star_BinOp) star_Constant)) (by rfl)) (mss_cons (ms_expr (me_app (mv 3) (ma_cons (mv 5) ma_nil star_Name)))
    (mss_one (ms_set (i := 4) sc_0i.nd rfl (by first | exact Or.inl rfl | exact Or.inr rfl) (me_op o_add (mv 4) (me_callTy c_int (by rfl) n_int MS.boot_int (ma_cons (me_cmp (o_neS hu) (me_ix (mv 5) me_int (fun _ _ => rfl)) me_str (nomark _)) ma_nil star_Compare)))))) mss_nil))))
    (mss_one (ms_ret (me_callTy c_tuple (by rfl) n_tuple MS.boot_tuple (ma_cons (mv 3) ma_nil star_Name))))))
abbrev H_law (P : Program) (w : World) (K : PySem.W.Frag) (mg : Str → Option Value) (base : Heap) (a : Addr) : Prop := Bn K mg "law" ss_law ["script"] a fun d => FnG P w K mg base 6 a d ["script"] F_law
theorem ok_law {f : Addr} (a : At K "law" ss_law f) (m_law : mg "law" = some (.ref f)) {a_law_draw : Addr} (h_law_draw : H_law_draw P w K mg base a_law_draw) {a_law_loose : Addr} (h_law_loose : H_law_loose P w K mg base a_law_loose) {a_law_mine : Addr} (h_law_mine : H_law_mine P w K mg base a_law_mine) {a_law_pen : Addr} (h_law_pen : H_law_pen P w K mg base a_law_pen) {a_law_reduced_due : Addr} (h_law_reduced_due : H_law_reduced_due P w K mg base a_law_reduced_due) {a_law_row : Addr} (h_law_row : H_law_row P w K mg base a_law_row) {a_law_some_reduction : Addr} (h_law_some_reduction : H_law_some_reduction P w K mg base a_law_some_reduction) {a_can_reduce : Addr} (h_can_reduce : H_can_reduce P w K mg base a_can_reduce) (n_len : mg "len" = none) (n_max : mg "max" = none) (n_min : mg "min" = none) (n_range : mg "range" = none) (n_repr : mg "repr" = none) : H_law P w K mg base f := by
  obtain ⟨fd, fn⟩ := a.2
  have b_law := fn.binds (ps := ["script"]) fun _ _ _ _ _ _ us hl => match us, hl with | [_], _ => rfl
  obtain ⟨d_law_draw, f_09, m_09, b_09, g_09⟩ := h_law_draw
  obtain ⟨d_law_loose, f_0c, m_0c, b_0c, g_0c⟩ := h_law_loose
  obtain ⟨d_law_mine, f_0e, m_0e, b_0e, g_0e⟩ := h_law_mine
  obtain ⟨d_law_pen, f_0g, m_0g, b_0g, g_0g⟩ := h_law_pen
  obtain ⟨d_law_reduced_due, f_0h, m_0h, b_0h, g_0h⟩ := h_law_reduced_due
  obtain ⟨d_law_row, f_0i, m_0i, b_0i, g_0i⟩ := h_law_row
  obtain ⟨d_law_some_reduction, f_0j, m_0j, b_0j, g_0j⟩ := h_law_some_reduction
  obtain ⟨d_can_reduce, f_02, m_02, b_02, g_02⟩ := h_can_reduce
  refine ⟨fd, fn, m_law, b_law, ?_⟩
  refine fnG_of fn sc_law fun cdv A outer s H hr hgd => ⟨M_law, ?_, den_does⟩
  have hu := hr.units
  have hud := L2.hu_of hr
  have hu80 := room80 hr
  have hu65 := Nat.lt_of_le_of_lt (Nat.add_le_add_left (show 65 ≤ 80 by decide) _) hu80
  exact (mss_cons (ms_set (i := 1) sc_law.nd rfl (by first | exact Or.inl rfl | exact Or.inr rfl) (me_call (g_0g.mono (by decide)) hr hgd (by rfl) m_0g f_0g.kp b_0g (fun _ _ _ => den_len) (ma_cons (mv 0) ma_nil star_Name)))
    (mss_cons (ms_for PassesOwn.never rfl (mi_range1 (by rfl) n_range (ma_cons (me_callB (c_max rfl) (by rfl) n_max MS.boot_max (ma_cons me_int (ma_cons (me_callB (c_min rfl) (by rfl) n_min MS.boot_min (ma_cons me_int (ma_cons (me_callB c_len (by rfl) n_len MS.boot_len (ma_cons (mv 0) ma_nil star_Name)) ma_nil star_Call) star_Constant)) ma_nil star_Call) star_Constant)) ma_nil star_Call)) (mg_name (i := 2) sc_law.nd rfl (by first | exact Or.inl rfl | exact Or.inr rfl)) (mss_cons (ms_set (i := 3) sc_law.nd rfl (by first | exact Or.inl rfl | exact Or.inr rfl) (me_call (g_0e.mono (by decide)) hr hgd (by rfl) m_0e f_0e.kp b_0e (fun _ _ _ => den_len) (ma_cons (mv 1) (ma_cons (me_op o_add me_int (me_call (g_09.mono (by decide)) hr hgd (by rfl) m_09 f_09.kp b_09 (fun _ _ _ => den_len) (ma_cons (mv 1) (ma_cons me_int ma_nil star_Constant) star_Name))) (ma_cons me_int ma_nil star_Constant) star_BinOp) star_Name)))
    (mss_cons (ms_if (mt_cmp (o_eq hu) (me_call (g_09.mono (by decide)) hr hgd (by rfl) m_09 f_09.kp b_09 (fun _ _ _ => den_len) (ma_cons (mv 1) (ma_cons me_int ma_nil star_Constant) star_Name)) me_int (nomark _)) (mss_one (ms_set (i := 3) sc_law.nd rfl (by first | exact Or.inl rfl | exact Or.inr rfl) (me_call (g_0c.mono (by decide)) hr hgd (by rfl) m_0c f_0c.kp b_0c (fun _ _ _ => den_len) (ma_cons (mv 1) (ma_cons (me_tup (ma_cons (me_ix (mv 3) me_int (fun _ _ => rfl)) (ma_cons (me_slice (me_ix (mv 3) me_int (fun _ _ => rfl)) mp_none (mp_some (me_call (g_09.mono (by decide)) hr hgd (by rfl) m_09 f_09.kp b_09 (fun _ _ _ => den_len) (ma_cons (mv 1) (ma_cons me_int ma_nil star_Constant) star_Name)))) (ma_cons (me_ix (mv 3) me_int (fun _ _ => rfl)) (ma_cons (me_ix (mv 3) me_int (fun _ _ => rfl)) ma_nil star_Subscript) star_Subscript) star_Subscript) star_Subscript)) ma_nil star_Tuple) star_Name)))) mss_nil)
    (mss_cons (ms_set (i := 4) sc_law.nd rfl (by first | exact Or.inl rfl | exact Or.inr rfl) (me_ifExp (mt_cmp (o_ne hu) (me_ix (mv 3) me_int (fun _ _ => rfl)) (me_tup ma_nil) (nomark _)) (me_call (g_0i.mono (by decide)) hr hgd (by rfl) m_0i f_0i.kp b_0i (fun _ _ _ => den_len) (ma_cons (mv 1) (ma_cons (mv 3) ma_nil star_Name) star_Name)) (me_tup ma_nil)))
    (mss_cons (ms_par (i := 6) (j := 7) rfl sc_law.nd rfl rfl (by decide) rfl rfl (ma_cons (me_call (g_09.mono (by decide)) hr hgd (by rfl) m_09 f_09.kp b_09 (fun _ _ _ => den_len) (ma_cons (mv 1) (ma_cons (me_op o_add (me_callB c_len (by rfl) n_len MS.boot_len (ma_cons (mv 4) ma_nil star_Name)) me_int) ma_nil star_BinOp) star_Name)) (ma_cons (me_call (g_0j.mono (by decide)) hr hgd (by rfl) m_0j f_0j.kp b_0j (fun _ _ _ => den_len) (ma_cons (mv 1) (ma_cons (mv 3) (ma_cons me_int ma_nil star_Constant) star_Name) star_Name)) ma_nil)))
    (mss_one (ms_for PassesOwn.never rfl (mi_items (me_tup (ma_cons (mv 4) (ma_cons (me_slice (mv 4) mp_none (mp_some (me_neg me_int))) (ma_cons (me_slice (mv 4) (mp_some me_int) mp_none) (ma_cons (me_op o_add (me_op o_add (me_slice (mv 4) mp_none (mp_some (mv 6))) (me_tup (ma_cons (mv 7) ma_nil star_Name))) (me_slice (mv 4) (mp_some (mv 6)) mp_none)) (ma_cons (me_revT (mv 4)) (ma_cons (me_tup ma_nil) ma_nil star_Tuple) star_Subscript) star_BinOp) star_Subscript) star_Subscript) star_Name))) (mg_name (i := 5) sc_law.nd rfl (by first | exact Or.inl rfl | exact Or.inr rfl)) (mss_cons (ms_set (i := 8) sc_law.nd rfl (by first | exact Or.inl rfl | exact Or.inr rfl) (me_callB (c_reprX hgd hu80) (by rfl) n_repr MS.boot_repr (ma_cons (me_tup (ma_cons (mv 3) (ma_cons (mv 5) ma_nil star_Name) star_Name)) ma_nil star_Tuple)))
    (mss_one (ms_if (MW.mt (mw_or (mt_cmp (o_ne hu) (me_callB (c_repr hgd hu80) (by rfl) n_repr MS.boot_repr (ma_cons (me_call (g_02.mono (by decide)) hr hgd (by rfl) m_02 f_02.kp b_02 (fun _ _ _ => den_len) (ma_cons (mv 3) (ma_cons (mv 5) ma_nil star_Name) star_Name)) ma_nil star_Call)) (me_callB (c_repr hgd hu80) (by rfl) n_repr MS.boot_repr (ma_cons (me_call (g_0h.mono (by decide)) hr hgd (by rfl) m_0h f_0h.kp b_0h (fun _ _ _ => den_len) (ma_cons (mv 3) (ma_cons (mv 5) ma_nil star_Name) star_Name)) ma_nil star_Call)) (nomark _)) (mw_or1 (mt_cmp (o_ne hu) (me_callB (c_reprX hgd hu80) (by rfl) n_repr MS.boot_repr (ma_cons (me_tup (ma_cons (mv 3) (ma_cons (mv 5) ma_nil star_Name) star_Name)) ma_nil star_Tuple)) (mv 8) (nomark _))))) (mss_one (ms_ret me_bl)) mss_nil))))))))))
    (mss_one (ms_ret me_bl))))
end
theorem all_mk {l : PySem.W.OpenLaw} {w : World} {K : PySem.W.Frag} {h : Heap} {mg : Str → Option Value} {fa : Addr} (X : K.In h) (G : h.Ns mainGlobals mg) (hfa : mg "law" = some (.ref fa))
    {e_03 : Addr} (a_far_ends : At K "far_ends" ss_03 e_03)
    {e_08 : Addr} (a_joints_touching : At K "joints_touching" ss_08 e_08)
    {e_0l : Addr} (a_removed_by : At K "removed_by" ss_0l e_0l)
    {e_0m : Addr} (a_without_joints : At K "without_joints" ss_0m e_0m)
    {e_00 : Addr} (a_after_reduction : At K "after_reduction" ss_00 e_00)
    {e_04 : Addr} (a_has_joint : At K "has_joint" ss_04 e_04)
    {e_05 : Addr} (a_is_between : At K "is_between" ss_05 e_05)
    {e_07 : Addr} (a_is_within : At K "is_within" ss_07 e_07)
    {e_01 : Addr} (a_can_be_done : At K "can_be_done" ss_01 e_01)
    {e_06 : Addr} (a_is_reduced : At K "is_reduced" ss_06 e_06)
    {e_02 : Addr} (a_can_reduce : At K "can_reduce" ss_02 e_02)
    {e_0g : Addr} (a_law_pen : At K "_law_pen" ss_0g e_0g)
    {e_0a : Addr} (a_law_fresh : At K "_law_fresh" ss_0a e_0a)
    {e_09 : Addr} (a_law_draw : At K "_law_draw" ss_09 e_09)
    {e_0f : Addr} (a_law_one_of : At K "_law_one_of" ss_0f e_0f)
    {e_0k : Addr} (a_law_two_places : At K "_law_two_places" ss_0k e_0k)
    {e_0e : Addr} (a_law_mine : At K "_law_mine" ss_0e e_0e)
    {e_0b : Addr} (a_law_inner : At K "_law_inner" ss_0b e_0b)
    {e_0d : Addr} (a_law_made : At K "_law_made" ss_0d e_0d)
    {e_0h : Addr} (a_law_reduced_due : At K "_law_reduced_due" ss_0h e_0h)
    {e_0c : Addr} (a_law_loose : At K "_law_loose" ss_0c e_0c)
    {e_0j : Addr} (a_law_some_reduction : At K "_law_some_reduction" ss_0j e_0j)
    {e_0i : Addr} (a_law_row : At K "_law_row" ss_0i e_0i)
    {e_law : Addr} (a_law : At K "law" ss_law e_law)
    (a5_all : PySem.W.nsIn K mainGlobals "all" = some none)
    (a5_dict : PySem.W.nsIn K mainGlobals "dict" = some none)
    (a5_enumerate : PySem.W.nsIn K mainGlobals "enumerate" = some none)
    (a5_int : PySem.W.nsIn K mainGlobals "int" = some none)
    (a5_len : PySem.W.nsIn K mainGlobals "len" = some none)
    (a5_list : PySem.W.nsIn K mainGlobals "list" = some none)
    (a5_max : PySem.W.nsIn K mainGlobals "max" = some none)
    (a5_min : PySem.W.nsIn K mainGlobals "min" = some none)
    (a5_range : PySem.W.nsIn K mainGlobals "range" = some none)
    (a5_repr : PySem.W.nsIn K mainGlobals "repr" = some none)
    (a5_sorted : PySem.W.nsIn K mainGlobals "sorted" = some none)
    (a5_tuple : PySem.W.nsIn K mainGlobals "tuple" = some none) :
    ∃ fd : FuncData, (∀ (s : Shared) (v : Value), BindsTo s fd ⟨[v], []⟩ [("script", v)]) ∧ ∀ base : Heap, K.In base → base.Ns mainGlobals mg → FnG l.prog w K mg base 6 fa fd ["script"] F_law := by
  have h0 := hfa.symm.trans (PySem.W.mg_of X G a_law.1)
  cases h0
  have n_all := PySem.W.mg_none_of X G a5_all
  have n_dict := PySem.W.mg_none_of X G a5_dict
  have n_enumerate := PySem.W.mg_none_of X G a5_enumerate
  have n_int := PySem.W.mg_none_of X G a5_int
  have n_len := PySem.W.mg_none_of X G a5_len
  have n_list := PySem.W.mg_none_of X G a5_list
  have n_max := PySem.W.mg_none_of X G a5_max
  have n_min := PySem.W.mg_none_of X G a5_min
  have n_range := PySem.W.mg_none_of X G a5_range
  have n_repr := PySem.W.mg_none_of X G a5_repr
  have n_sorted := PySem.W.mg_none_of X G a5_sorted
  have n_tuple := PySem.W.mg_none_of X G a5_tuple
  refine law_fd (mg := mg) (ps := ["script"]) a_law.2 (fun _ _ _ _ _ _ s v => .of_eq rfl) fun base _ _ => ?_
  have h_far_ends := ok_03 (P := l.prog) (w := w) (base := base) a_far_ends (PySem.W.mg_of X G a_far_ends.1)
  have h_joints_touching := ok_08 (P := l.prog) (w := w) (base := base) a_joints_touching (PySem.W.mg_of X G a_joints_touching.1) n_enumerate
  have h_removed_by := ok_0l (P := l.prog) (w := w) (base := base) a_removed_by (PySem.W.mg_of X G a_removed_by.1) h_joints_touching n_list
  have h_without_joints := ok_0m (P := l.prog) (w := w) (base := base) a_without_joints (PySem.W.mg_of X G a_without_joints.1) n_enumerate
  have h_after_reduction := ok_00 (P := l.prog) (w := w) (base := base) a_after_reduction (PySem.W.mg_of X G a_after_reduction.1) h_far_ends h_removed_by h_without_joints n_tuple
  have h_has_joint := ok_04 (P := l.prog) (w := w) (base := base) a_has_joint (PySem.W.mg_of X G a_has_joint.1) n_len
  have h_is_between := ok_05 (P := l.prog) (w := w) (base := base) a_is_between (PySem.W.mg_of X G a_is_between.1)
  have h_is_within := ok_07 (P := l.prog) (w := w) (base := base) a_is_within (PySem.W.mg_of X G a_is_within.1)
  have h_can_be_done := ok_01 (P := l.prog) (w := w) (base := base) a_can_be_done (PySem.W.mg_of X G a_can_be_done.1) h_far_ends h_has_joint h_is_between h_is_within h_joints_touching n_all n_len
  have h_is_reduced := ok_06 (P := l.prog) (w := w) (base := base) a_is_reduced (PySem.W.mg_of X G a_is_reduced.1) h_is_between n_len
  have h_can_reduce := ok_02 (P := l.prog) (w := w) (base := base) a_can_reduce (PySem.W.mg_of X G a_can_reduce.1) h_after_reduction h_can_be_done h_is_reduced n_enumerate n_len n_list
  have h_law_pen := ok_0g (P := l.prog) (w := w) (base := base) a_law_pen (PySem.W.mg_of X G a_law_pen.1) n_list
  have h_law_fresh := ok_0a (P := l.prog) (w := w) (base := base) a_law_fresh (PySem.W.mg_of X G a_law_fresh.1) n_int n_len n_range
  have h_law_draw := ok_09 (P := l.prog) (w := w) (base := base) a_law_draw (PySem.W.mg_of X G a_law_draw.1) h_law_fresh n_int
  have h_law_one_of := ok_0f (P := l.prog) (w := w) (base := base) a_law_one_of (PySem.W.mg_of X G a_law_one_of.1) h_law_draw n_len
  have h_law_two_places := ok_0k (P := l.prog) (w := w) (base := base) a_law_two_places (PySem.W.mg_of X G a_law_two_places.1) h_law_draw n_int
  have h_law_mine := ok_0e (P := l.prog) (w := w) (base := base) a_law_mine (PySem.W.mg_of X G a_law_mine.1) h_law_draw h_law_one_of h_law_two_places n_len n_min n_range n_tuple
  have h_law_inner := ok_0b (P := l.prog) (w := w) (base := base) a_law_inner (PySem.W.mg_of X G a_law_inner.1) n_range
  have h_law_made := ok_0d (P := l.prog) (w := w) (base := base) a_law_made (PySem.W.mg_of X G a_law_made.1) h_law_inner n_len n_list n_sorted n_tuple
  have h_law_reduced_due := ok_0h (P := l.prog) (w := w) (base := base) a_law_reduced_due (PySem.W.mg_of X G a_law_reduced_due.1) h_law_made n_dict n_enumerate n_len n_sorted
  have h_law_loose := ok_0c (P := l.prog) (w := w) (base := base) a_law_loose (PySem.W.mg_of X G a_law_loose.1) h_law_draw h_law_two_places n_range n_tuple
  have h_law_some_reduction := ok_0j (P := l.prog) (w := w) (base := base) a_law_some_reduction (PySem.W.mg_of X G a_law_some_reduction.1) h_law_draw h_law_inner h_law_one_of n_list n_range n_tuple
  have h_law_row := ok_0i (P := l.prog) (w := w) (base := base) a_law_row (PySem.W.mg_of X G a_law_row.1) h_law_reduced_due h_law_some_reduction n_int n_len n_range n_tuple
  have h_law := ok_law (P := l.prog) (w := w) (base := base) a_law (PySem.W.mg_of X G a_law.1) h_law_draw h_law_loose h_law_mine h_law_pen h_law_reduced_due h_law_row h_law_some_reduction h_can_reduce n_len n_max n_min n_range n_repr
  exact h_law
end K16
open PySem PySem.W PyProof.Rows
set_option maxHeartbeats 0 in
theorem PySem.Challenge.cw_windways_k16_reductions_done_holds : PySem.Challenge.rw_windways_k16_reductions_done.Holds :=
  top_hd (by
  k_fill
  refine MS.walkG (l := PySem.Challenge.rw_windways_k16_reductions_done) (n := 63) (k := 6) (x := "script") rfl (by decide) rfl ⟨rfl, by decide, by decide⟩ (fun w h Y => PySem.W.kIn_of Y) K16.law_ok ?F
  case F =>
    intro w mg fa h KX G hmg
    refine' K16.all_mk KX G hmg ?a_far_ends ?a_joints_touching ?a_removed_by ?a_without_joints ?a_after_reduction ?a_has_joint ?a_is_between ?a_is_within ?a_can_be_done ?a_is_reduced ?a_can_reduce ?a_law_pen ?a_law_fresh ?a_law_draw ?a_law_one_of ?a_law_two_places ?a_law_mine ?a_law_inner ?a_law_made ?a_law_reduced_due ?a_law_loose ?a_law_some_reduction ?a_law_row ?a_law ?a5_all ?a5_dict ?a5_enumerate ?a5_int ?a5_len ?a5_list ?a5_max ?a5_min ?a5_range ?a5_repr ?a5_sorted ?a5_tuple
    (case a_far_ends => (refine' MS.at_mk ?h1 ?h2 ?h3 ?h4; (case h1 => k_is); (case h2 => k_is); (case h3 => k_is); (case h4 => k_is))); (case a_joints_touching => (refine' MS.at_mk ?h1 ?h2 ?h3 ?h4; (case h1 => k_is); (case h2 => k_is); (case h3 => k_is); (case h4 => k_is))); (case a_removed_by => (refine' MS.at_mk ?h1 ?h2 ?h3 ?h4; (case h1 => k_is); (case h2 => k_is); (case h3 => k_is); (case h4 => k_is))); (case a_without_joints => (refine' MS.at_mk ?h1 ?h2 ?h3 ?h4; (case h1 => k_is); (case h2 => k_is); (case h3 => k_is); (case h4 => k_is))); (case a_after_reduction => (refine' MS.at_mk ?h1 ?h2 ?h3 ?h4; (case h1 => k_is); (case h2 => k_is); (case h3 => k_is); (case h4 => k_is))); (case a_has_joint => (refine' MS.at_mk ?h1 ?h2 ?h3 ?h4; (case h1 => k_is); (case h2 => k_is); (case h3 => k_is); (case h4 => k_is))); (case a_is_between => (refine' MS.at_mk ?h1 ?h2 ?h3 ?h4; (case h1 => k_is); (case h2 => k_is); (case h3 => k_is); (case h4 => k_is))); (case a_is_within => (refine' MS.at_mk ?h1 ?h2 ?h3 ?h4; (case h1 => k_is); (case h2 => k_is); (case h3 => k_is); (case h4 => k_is))); (case a_can_be_done => (refine' MS.at_mk ?h1 ?h2 ?h3 ?h4; (case h1 => k_is); (case h2 => k_is); (case h3 => k_is); (case h4 => k_is))); (case a_is_reduced => (refine' MS.at_mk ?h1 ?h2 ?h3 ?h4; (case h1 => k_is); (case h2 => k_is); (case h3 => k_is); (case h4 => k_is))); (case a_can_reduce => (refine' MS.at_mk ?h1 ?h2 ?h3 ?h4; (case h1 => k_is); (case h2 => k_is); (case h3 => k_is); (case h4 => k_is))); (case a_law_pen => (refine' MS.at_mk ?h1 ?h2 ?h3 ?h4; (case h1 => k_is); (case h2 => k_is); (case h3 => k_is); (case h4 => k_is))); (case a_law_fresh => (refine' MS.at_mk ?h1 ?h2 ?h3 ?h4; (case h1 => k_is); (case h2 => k_is); (case h3 => k_is); (case h4 => k_is))); (case a_law_draw => (refine' MS.at_mk ?h1 ?h2 ?h3 ?h4; (case h1 => k_is); (case h2 => k_is); (case h3 => k_is); (case h4 => k_is))); (case a_law_one_of => (refine' MS.at_mk ?h1 ?h2 ?h3 ?h4; (case h1 => k_is); (case h2 => k_is); (case h3 => k_is); (case h4 => k_is))); (case a_law_two_places => (refine' MS.at_mk ?h1 ?h2 ?h3 ?h4; (case h1 => k_is); (case h2 => k_is); (case h3 => k_is); (case h4 => k_is))); (case a_law_mine => (refine' MS.at_mk ?h1 ?h2 ?h3 ?h4; (case h1 => k_is); (case h2 => k_is); (case h3 => k_is); (case h4 => k_is))); (case a_law_inner => (refine' MS.at_mk ?h1 ?h2 ?h3 ?h4; (case h1 => k_is); (case h2 => k_is); (case h3 => k_is); (case h4 => k_is))); (case a_law_made => (refine' MS.at_mk ?h1 ?h2 ?h3 ?h4; (case h1 => k_is); (case h2 => k_is); (case h3 => k_is); (case h4 => k_is))); (case a_law_reduced_due => (refine' MS.at_mk ?h1 ?h2 ?h3 ?h4; (case h1 => k_is); (case h2 => k_is); (case h3 => k_is); (case h4 => k_is))); (case a_law_loose => (refine' MS.at_mk ?h1 ?h2 ?h3 ?h4; (case h1 => k_is); (case h2 => k_is); (case h3 => k_is); (case h4 => k_is))); (case a_law_some_reduction => (refine' MS.at_mk ?h1 ?h2 ?h3 ?h4; (case h1 => k_is); (case h2 => k_is); (case h3 => k_is); (case h4 => k_is))); (case a_law_row => (refine' MS.at_mk ?h1 ?h2 ?h3 ?h4; (case h1 => k_is); (case h2 => k_is); (case h3 => k_is); (case h4 => k_is))); (case a_law => (refine' MS.at_mk ?h1 ?h2 ?h3 ?h4; (case h1 => k_is); (case h2 => k_is); (case h3 => k_is); (case h4 => k_is))); (case a5_all => k_is); (case a5_dict => k_is); (case a5_enumerate => k_is); (case a5_int => k_is); (case a5_len => k_is); (case a5_list => k_is); (case a5_max => k_is); (case a5_min => k_is); (case a5_range => k_is); (case a5_repr => k_is); (case a5_sorted => k_is); (case a5_tuple => k_is))
