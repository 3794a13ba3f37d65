import PyProof.Rows.All
import Wide.All
import OpenK.AllK
import Wide.FinOn
import HandS.ForMost
import HandS.Conv
import HandS.AnyAll
import HandS.EndTab
import HandS.Iter
import PyProof.ReprRoads
import PyProof.ReprLen
import PyProof.StrLawsRepr
import HandS.IsInst
import HandS.Text
import PyProof.EqKinds
import PyProof.FactsAll.dict_1
import KE.DataEq
import HandS.TupAny
import HandS.Style
import HandS.More
import HandS.TupSets
import HandS.Set
import PyProof.SetRoads
import PyProof.Rows.SetFrom
import HandS.SortRule
import HandS.FStr
import HandS.RaiseMore
import PySem.Challenge.RW_gatepairs_k80_lines_and_logs_as_text
set_option Elab.async false
set_option linter.all false
set_option maxRecDepth 100000
set_option maxHeartbeats 2000000
/-! DL0: data, what a value shows of it, how heaps grow, the state of a frame told by data. -/
namespace DL
open PySem PySem.Spec L2

abbrev D := PyData
def kD : Key → D
  | .inl i => .int i
  | .inr x => .str x

mutual
/-- the value v shows the data d, in the heap H -/
inductive Rp (H : Hp) : V → D → Prop
  | non : Rp H .non .none
  | bl (b : Bool) : Rp H (.bl b) (.bool b)
  | int (i : Int) : Rp H (.int i) (.int i)
  | str (x : Str) : Rp H (.str x) (.str x)
  | lst {a : Addr} {xs : List V} {ds : List D} : H a = some (.lst xs) → RpA H xs ds → Rp H (.ref a) (.list ds)
  | tup {a : Addr} {xs : List V} {ds : List D} : H a = some (.tup xs) → RpA H xs ds → Rp H (.ref a) (.tuple ds)
  | dic {a : Addr} {kvs : List (Key × V)} {ds : List (D × D)} : Rd H a (.dK kvs) → (kvs.map (·.1)).Nodup → RpK H kvs ds → Rp H (.ref a) (.dict ds)
inductive RpA (H : Hp) : List V → List D → Prop
  | nil : RpA H [] []
  | cons {v : V} {vs : List V} {d : D} {ds : List D} : Rp H v d → RpA H vs ds → RpA H (v :: vs) (d :: ds)
inductive RpK (H : Hp) : List (Key × V) → List (D × D) → Prop
  | nil : RpK H [] []
  | cons {k : Key} {v : V} {kvs : List (Key × V)} {d : D} {ds : List (D × D)} : Rp H v d → RpK H kvs ds → RpK H ((k, v) :: kvs) ((kD k, d) :: ds)
end

/-- all data of H is in H' -/
structure Le (H H' : Hp) : Prop where
  lst : ∀ a xs, H a = some (.lst xs) → H' a = some (.lst xs)
  tup : ∀ a xs, H a = some (.tup xs) → H' a = some (.tup xs)
  dic : ∀ a kvs, Rd H a (.dK kvs) → Rd H' a (.dK kvs)
  seq : ∀ a xs, Rd H a (.lst xs) → Rd H' a (.lst xs)
theorem Le.refl (H : Hp) : Le H H := ⟨fun _ _ h => h, fun _ _ h => h, fun _ _ h => h, fun _ _ h => h⟩
theorem Le.trans {H H1 H2 : Hp} (a : Le H H1) (b : Le H1 H2) : Le H H2 := ⟨fun x y h => b.lst x y (a.lst x y h), fun x y h => b.tup x y (a.tup x y h), fun x y h => b.dic x y (a.dic x y h), fun x y h => b.seq x y (a.seq x y h)⟩

mutual
theorem Rp.mono {H H' : Hp} (l : Le H H') : ∀ {v : V} {d : D}, Rp H v d → Rp H' v d
  | _, _, .non => .non
  | _, _, .bl b => .bl b
  | _, _, .int i => .int i
  | _, _, .str x => .str x
  | _, _, .lst h r => .lst (l.lst _ _ h) (RpA.mono l r)
  | _, _, .tup h r => .tup (l.tup _ _ h) (RpA.mono l r)
  | _, _, .dic h n r => .dic (l.dic _ _ h) n (RpK.mono l r)
theorem RpA.mono {H H' : Hp} (l : Le H H') : ∀ {v : List V} {d : List D}, RpA H v d → RpA H' v d
  | _, _, .nil => .nil
  | _, _, .cons h r => .cons (Rp.mono l h) (RpA.mono l r)
theorem RpK.mono {H H' : Hp} (l : Le H H') : ∀ {v : List (Key × V)} {d : List (D × D)}, RpK H v d → RpK H' v d
  | _, _, .nil => .nil
  | _, _, .cons h r => .cons (Rp.mono l h) (RpK.mono l r)
end

section
variable {H : Hp}
theorem RpA.length : ∀ {vs : List V} {ds : List D}, RpA H vs ds → vs.length = ds.length
  | _, _, .nil => rfl
  | _, _, .cons _ r => by rw [List.length_cons, List.length_cons, RpA.length r]
theorem RpA.get : ∀ {vs : List V} {ds : List D} {i : Nat} {d : D}, RpA H vs ds → ds[i]? = some d → ∃ v, vs[i]? = some v ∧ Rp H v d
  | _, _, _, _, .nil, e => by simp at e
  | _, _, 0, _, .cons h _, e => by
    have e : _ = _ := Option.some.inj e
    subst e
    exact ⟨_, rfl, h⟩
  | _, _, i + 1, d, .cons _ r, e => RpA.get (i := i) (d := d) r e
theorem RpA.getV : ∀ {vs : List V} {ds : List D} {i : Nat} {v : V}, RpA H vs ds → vs[i]? = some v → ∃ d, ds[i]? = some d ∧ Rp H v d
  | _, _, _, _, .nil, e => by simp at e
  | _, _, 0, _, .cons h _, e => by
    have e : _ = _ := Option.some.inj e
    subst e
    exact ⟨_, rfl, h⟩
  | _, _, i + 1, v, .cons _ r, e => RpA.getV (i := i) (v := v) r e
theorem RpA.append : ∀ {vs ws : List V} {ds es : List D}, RpA H vs ds → RpA H ws es → RpA H (vs ++ ws) (ds ++ es)
  | _, _, _, _, .nil, s => s
  | _, _, _, _, .cons h r, s => .cons h (RpA.append r s)
theorem RpA.take : ∀ {vs : List V} {ds : List D} (n : Nat), RpA H vs ds → RpA H (vs.take n) (ds.take n)
  | _, _, 0, _ => .nil
  | _, _, _ + 1, .nil => .nil
  | _, _, n + 1, .cons h r => .cons h (RpA.take n r)
theorem RpA.drop : ∀ {vs : List V} {ds : List D} (n : Nat), RpA H vs ds → RpA H (vs.drop n) (ds.drop n)
  | _, _, 0, r => r
  | _, _, _ + 1, .nil => .nil
  | _, _, n + 1, .cons _ r => RpA.drop n r
theorem RpA.one {v : V} {d : D} (h : Rp H v d) : RpA H [v] [d] := .cons h .nil
theorem RpK.length : ∀ {vs : List (Key × V)} {ds : List (D × D)}, RpK H vs ds → vs.length = ds.length
  | _, _, .nil => rfl
  | _, _, .cons _ r => by rw [List.length_cons, List.length_cons, RpK.length r]
end

/-! ### hidden objects, growth -/
/-- H without the objects at O -/
def vis (O : List Addr) (H : Hp) : Hp := fun a => if a ∈ O then none else H a
theorem vis_in {O : List Addr} {H : Hp} {a : Addr} (h : a ∈ O) : vis O H a = none := by unfold vis; rw [if_pos h]
theorem vis_out {O : List Addr} {H : Hp} {a : Addr} (h : a ∉ O) : vis O H a = H a := by unfold vis; rw [if_neg h]
theorem vis_some {O : List Addr} {H : Hp} {a : Addr} {o : HO} (h : vis O H a = some o) : a ∉ O ∧ H a = some o := by
  unfold vis at h
  split at h
  · cases h
  · exact ⟨by assumption, h⟩
/-- what a kept object may have become: itself; a grown table; itself, locked by a loop -/
def Kept (Lk : List Addr) (a : Addr) (o : HO) (H : Hp) : Prop :=
  H a = some o ∨ (∃ ps ps', o = .tbl ps ∧ H a = some (.tbl ps') ∧ TriplesOk ps'.toList) ∨ (a ∈ Lk ∧ ∃ od, H a = some (.frz od o))
def Gr (M Lk : List Addr) (B H : Hp) : Prop := ∀ a o, a ∉ M → B a = some o → Kept Lk a o H
theorem Gr.refl (M Lk : List Addr) (H : Hp) : Gr M Lk H H := fun _ _ _ h => .inl h
theorem Gr.trans {M M' Lk : List Addr} {B H H' : Hp} (x : Gr M Lk B H) (y : Gr M' [] H H') (hm : ∀ a ∈ M', a ∈ M ∨ B a = none) : Gr M Lk B H' := fun a o ha e => by
  have hm' : a ∉ M' := fun z => (hm a z).elim ha fun q => by rw [q] at e; cases e
  rcases x a o ha e with h | ⟨ps, ps', rfl, h, ht⟩ | ⟨hl, od, h⟩
  · rcases y a o hm' h with h | h | ⟨z, _⟩
    · exact .inl h
    · exact .inr (.inl h)
    · cases z
  · rcases y a _ hm' h with h | ⟨qs, qs', e1, h, ht'⟩ | ⟨z, _⟩
    · exact .inr (.inl ⟨ps, ps', rfl, h, ht⟩)
    · exact .inr (.inl ⟨ps, qs', rfl, h, ht'⟩)
    · cases z
  · rcases y a _ hm' h with h | ⟨qs, qs', e1, h, ht'⟩ | ⟨z, _⟩
    · exact .inr (.inr ⟨hl, od, h⟩)
    · cases e1
    · cases z
theorem Gr.le {M : List Addr} {H H' : Hp} (g : Gr M [] H H') {O : List Addr} (hm : ∀ a ∈ M, a ∈ O) : Le (vis O H) (vis O H') := by
  have key : ∀ a o, vis O H a = some o → (∀ ps, o ≠ .tbl ps) → vis O H' a = some o := fun a o h nt => by
    obtain ⟨ha, h⟩ := vis_some h
    rw [vis_out ha]
    rcases g a o (fun z => ha (hm a z)) h with h | ⟨ps, _, e, _⟩ | ⟨z, _⟩
    · exact h
    · exact absurd e (nt ps)
    · cases z
  refine ⟨fun a xs h => key a _ h (fun _ z => nomatch z), fun a xs h => key a _ h (fun _ z => nomatch z), fun a kvs h => ?_, fun a xs h => ?_⟩
  · rcases h with h | ⟨o, h⟩
    · exact .inl (key a _ h (fun _ z => nomatch z))
    · exact .inr ⟨o, key a _ h (fun _ z => nomatch z)⟩
  · rcases h with h | ⟨o, h⟩
    · exact .inl (key a _ h (fun _ z => nomatch z))
    · exact .inr ⟨o, key a _ h (fun _ z => nomatch z)⟩
theorem Gr.new {M Lk : List Addr} {B H : Hp} (g : Gr M Lk B H) {p : Addr} {o : HO} (h : H p = none) : Gr M Lk B (upd H p o) := fun a u ha e => by
  have ne : ∀ {u : HO}, H a = some u → a ≠ p := fun e z => by rw [z, h] at e; cases e
  rcases g a u ha e with h | ⟨ps, ps', e1, h, t⟩ | ⟨l, od, h⟩
  · exact .inl (by rw [upd_ne (ne h)]; exact h)
  · exact .inr (.inl ⟨ps, ps', e1, by rw [upd_ne (ne h)]; exact h, t⟩)
  · exact .inr (.inr ⟨l, od, by rw [upd_ne (ne h)]; exact h⟩)
/-- a new object may change -/
theorem Gr.mut {M Lk : List Addr} {B H : Hp} (g : Gr M Lk B H) {p : Addr} {o : HO} (h : p ∈ M ∨ B p = none) : Gr M Lk B (upd H p o) := fun a u ha e => by
  have ne : a ≠ p := fun z => by
    rw [z] at ha e
    exact h.elim ha fun q => by rw [q] at e; cases e
  rcases g a u ha e with h | ⟨ps, ps', e1, h, t⟩ | ⟨l, od, h⟩
  · exact .inl (by rw [upd_ne ne]; exact h)
  · exact .inr (.inl ⟨ps, ps', e1, by rw [upd_ne ne]; exact h, t⟩)
  · exact .inr (.inr ⟨l, od, by rw [upd_ne ne]; exact h⟩)
theorem le_new {O : List Addr} {H : Hp} {p : Addr} {o : HO} (h : H p = none) : Le (vis O H) (vis O (upd H p o)) :=
  Gr.le (M := []) (fun a u _ e => .inl (by rw [upd_ne (ne_of_none e h)]; exact e)) (fun _ z => nomatch z)
/-- hidden objects may change -/
theorem le_mut {O : List Addr} {H : Hp} {p : Addr} {o : HO} (h : p ∈ O) : vis O (upd H p o) = vis O H := by
  funext a
  by_cases ha : a ∈ O
  · rw [vis_in ha, vis_in ha]
  · rw [vis_out ha, vis_out ha, upd_ne (fun z => ha (by rw [z]; exact h))]
theorem vis_le {O O' : List Addr} {H : Hp} (h : ∀ a ∈ O', a ∈ O) : Le (vis O H) (vis O' H) := by
  have key : ∀ a o, vis O H a = some o → vis O' H a = some o := fun a o e => by
    obtain ⟨ha, e⟩ := vis_some e
    rw [vis_out fun z => ha (h a z)]
    exact e
  exact ⟨fun a _ e => key a _ e, fun a _ e => key a _ e, fun a _ e => e.elim (fun e => .inl (key a _ e)) fun ⟨o, e⟩ => .inr ⟨o, key a _ e⟩, fun a _ e => e.elim (fun e => .inl (key a _ e)) fun ⟨o, e⟩ => .inr ⟨o, key a _ e⟩⟩

/-! ### the state of a frame -/
/-- what a frame owns -/
inductive OD where
  | feed
  | lst (ds : List D)
  | dic (ks : List (D × D))
inductive Sl where
  | d (d : D)
  | own (o : OD)
  | scr (ns : List Int)
abbrev Dl := List (Option Sl)
/-- no new object is locked -/
def Nf (H H' : Hp) : Prop := ∀ a od u, H' a = some (.frz od u) → H a ≠ none
def FeedAt (H : Hp) (p : Addr) : Prop := ∃ a b : Int, H p = some (.lst [.int a, .int b])
def OwnAt (O : List Addr) (H : Hp) (p : Addr) : OD → Prop
  | .feed => FeedAt H p
  | .lst ds => ∃ xs, H p = some (.lst xs) ∧ RpA (vis O H) xs ds
  | .dic ks => ∃ kvs, H p = some (.dK kvs) ∧ (kvs.map (·.1)).Nodup ∧ RpK (vis O H) kvs ks
/-- G: the class of laws' text (K), the tables -/
structure Glo where
  K : PySem.W.Frag
  Tb : List Addr
def SlOk (G : Glo) (B : Hp) (M O : List Addr) (H : Hp) (v : V) : Sl → Prop
  | .d d => Rp (vis O H) v d
  | .own o => ∃ p, v = .ref p ∧ p ∈ O ∧ (p ∈ M ∨ B p = none) ∧ (o = .feed ∨ B p = none) ∧ OwnAt O H p o
  | .scr ns => ∃ a, v = .ref a ∧ SqL G.K (vis O H) a (ns.map V.int)
/-- the dicts that a loop walks; objects that are hidden and stay as they are (a list that a comprehension makes) -/
abbrev Lks := List (Addr × Obj × HO) × List (Addr × HO)
/-- B: the heap at the frame's entry; O0: what its callers own; M: what of it the frame may change (its feed); Lk: dicts that a loop walks -/
structure AtO (G : Glo) (B : Hp) (O0 M : List Addr) (Lk : Lks) (O : List Addr) (δ : Dl) (σ : L2.St) (τ : List (V × D)) (H : Hp) : Prop where
  sub0 : ∀ p ∈ O0, p ∈ O
  subM : ∀ p ∈ M, p ∈ O0
  o0 : ∀ p ∈ O0, B p ≠ none
  new : ∀ p ∈ O, p ∈ O0 ∨ B p = none
  live : ∀ p ∈ O, H p ≠ none
  gr : Gr M (Lk.1.map (·.1)) B H
  hid : ∀ p ∈ Lk.2, H p.1 = some p.2 ∧ p.1 ∈ O ∧ B p.1 = none ∧ ∀ (i : Nat) (o : OD), δ[i]? = some (some (.own o)) → σ[i]? ≠ some (some (.ref p.1))
  hidT : ∀ p ∈ Lk.2, ∀ ps, p.2 ≠ .tbl ps
  feeds : ∀ f ∈ M, FeedAt H f
  tabs : ∀ P ∈ G.Tb, GxR.TabG H P
  tmp : ∀ p ∈ τ, Rp (vis O H) p.1 p.2
  len : δ.length = σ.length
  slots : ∀ (i : Nat) (sl : Sl), δ[i]? = some (some sl) → ∃ v, σ[i]? = some (some v) ∧ SlOk G B M O H v sl
  sep : ∀ (i j : Nat) (o o' : OD) (p : Addr), δ[i]? = some (some (.own o)) → δ[j]? = some (some (.own o')) → σ[i]? = some (some (.ref p)) → σ[j]? = some (some (.ref p)) → i = j
  lck : ∀ p ∈ Lk.1, p.1 ∉ O ∧ H p.1 = some (.frz p.2.1 p.2.2)
  nof : ∀ a od u, H a = some (.frz od u) → B a ≠ none ∨ a ∈ Lk.1.map (·.1)
def At (G : Glo) (B : Hp) (O0 M : List Addr) (Lk : Lks) (δ : Dl) (σ : L2.St) (τ : List (V × D)) (H : Hp) : Prop := ∃ O, AtO G B O0 M Lk O δ σ τ H
end DL

set_option Elab.async false
set_option linter.all false
set_option maxRecDepth 100000
set_option maxHeartbeats 2000000
/-! DL1: expressions told by data. -/
namespace DL
open PySem PySem.Spec L2

section
variable {G : Glo} {B : Hp} {O0 M O : List Addr} {Lk : Lks} {δ : Dl} {σ : L2.St} {τ : List (V × D)} {H H' : Hp}

theorem FeedAt.gr {M' : List Addr} (g : Gr M' [] H H') {p : Addr} (hp : p ∉ M') (h : FeedAt H p) : FeedAt H' p := by
  obtain ⟨a, b, h⟩ := h
  rcases g p _ hp h with h | ⟨_, _, e, _⟩ | ⟨z, _⟩
  · exact ⟨a, b, h⟩
  · cases e
  · cases z
theorem TabG.gr {M' : List Addr} (g : Gr M' [] H H') {p : Addr} (hp : p ∉ M') (h : GxR.TabG H p) : GxR.TabG H' p := by
  obtain ⟨ps, h, t⟩ := h
  rcases g p _ hp h with h | ⟨_, ps', _, h, t'⟩ | ⟨z, _⟩
  · exact ⟨ps, h, t⟩
  · exact ⟨ps', h, t'⟩
  · cases z
theorem OwnAt.le {p : Addr} {o : OD} (l : Le (vis O H) (vis O H')) (hl : ∀ xs, H p = some (.lst xs) → H' p = some (.lst xs)) (hd : ∀ kvs, H p = some (.dK kvs) → H' p = some (.dK kvs)) (h : OwnAt O H p o) : OwnAt O H' p o := by
  cases o with
  | feed => obtain ⟨a, b, h⟩ := h; exact ⟨a, b, hl _ h⟩
  | lst ds => obtain ⟨xs, h, r⟩ := h; exact ⟨xs, hl _ h, r.mono l⟩
  | dic ks => obtain ⟨kvs, h, n, r⟩ := h; exact ⟨kvs, hd _ h, n, r.mono l⟩
theorem ex_seq {K : PySem.W.Frag} {H H' : Hp} {a : Addr} {xs : List V} (l : Le H H') (h : SqL K H a xs) : SqL K H' a xs := by
  rcases h with h | h
  · exact .inl (l.seq _ _ h)
  · exact .inr h
/-- the heap has grown: what stands at fs (feeds that the frame owns) may have turned, as feeds -/
theorem AtO.grow {M' : List Addr} (I : AtO G B O0 M Lk O δ σ τ H) (g : Gr M' [] H H') (hf : ∀ f ∈ M', FeedAt H' f) (hM : ∀ f ∈ M', f ∈ O ∧ (f ∈ M ∨ B f = none) ∧ FeedAt H f) (hS : ∀ f ∈ M', ∀ (i : Nat) (o : OD), δ[i]? = some (some (.own o)) → σ[i]? = some (some (.ref f)) → o = .feed) (hP : ∀ f ∈ M', ∀ p ∈ Lk.2, p.1 ≠ f) (hN : Nf H H') : AtO G B O0 M Lk O δ σ τ H' := by
  have l : Le (vis O H) (vis O H') := g.le fun a ha => (hM a ha).1
  have keepL : ∀ p xs, p ∉ M' → H p = some (.lst xs) → H' p = some (.lst xs) := fun p xs hp h => by
    rcases g p _ hp h with h | ⟨_, _, e, _⟩ | ⟨z, _⟩
    · exact h
    · cases e
    · cases z
  have keepD : ∀ p xs, p ∉ M' → H p = some (.dK xs) → H' p = some (.dK xs) := fun p xs hp h => by
    rcases g p _ hp h with h | ⟨_, _, e, _⟩ | ⟨z, _⟩
    · exact h
    · cases e
    · cases z
  have lv : ∀ p, H p ≠ none → H' p ≠ none := fun p h => by
    by_cases hp : p ∈ M'
    · obtain ⟨a, b, e⟩ := hf p hp
      rw [e]
      exact fun z => nomatch z
    · cases e : H p with
      | none => exact absurd e h
      | some o =>
        rcases g p o hp e with q | ⟨_, _, _, q, _⟩ | ⟨z, _⟩
        · rw [q]; exact fun z => nomatch z
        · rw [q]; exact fun z => nomatch z
        · cases z
  refine ⟨I.sub0, I.subM, I.o0, I.new, fun p hp => lv p (I.live p hp), I.gr.trans g fun a ha => (hM a ha).2.1, fun p hp => ?_, I.hidT, fun f hfM => ?_, fun P hP => ?_, fun p hp => (I.tmp p hp).mono l, I.len, fun i sl e => ?_, I.sep, fun p hp => ⟨(I.lck p hp).1, by
    rcases g p.1 _ (fun z => by
      obtain ⟨a, b, e⟩ := (hM p.1 z).2.2
      rw [(I.lck p hp).2] at e
      cases e) (I.lck p hp).2 with q | ⟨_, _, e, _⟩ | ⟨z, _⟩
    · exact q
    · cases e
    · cases z⟩, fun a od u e => by
    cases h : H a with
    | none => exact absurd h (hN a od u e)
    | some o =>
      by_cases hm : a ∈ M'
      · obtain ⟨x, y, z⟩ := hf a hm
        rw [e] at z
        cases z
      · rcases g a o hm h with q | ⟨_, _, _, q, _⟩ | ⟨z, _⟩
        · rw [e] at q
          cases q
          exact I.nof a od u h
        · rw [e] at q
          cases q
        · cases z⟩
  · obtain ⟨h1, h2, h3, h4⟩ := I.hid p hp
    refine ⟨?_, h2, h3, h4⟩
    rcases g p.1 _ (fun z => hP p.1 z p hp rfl) h1 with q | ⟨ps, _, e, _⟩ | ⟨z, _⟩
    · exact q
    · exact absurd e (I.hidT p hp ps)
    · cases z
  · by_cases hp : f ∈ M'
    · exact hf f hp
    · exact (I.feeds f hfM).gr g hp
  · refine TabG.gr g (fun z => ?_) (I.tabs P hP)
    obtain ⟨ps, e, _⟩ := I.tabs P hP
    obtain ⟨a, b, e2⟩ := (hM P z).2.2
    rw [e] at e2
    cases e2
  · obtain ⟨v, e1, h⟩ := I.slots i sl e
    refine ⟨v, e1, ?_⟩
    cases sl with
    | d d => exact Rp.mono l h
    | scr ns => obtain ⟨a, e2, h⟩ := h; exact ⟨a, e2, ex_seq l h⟩
    | own o =>
      obtain ⟨p, e2, hp, hb, hb2, h⟩ := h
      refine ⟨p, e2, hp, hb, hb2, ?_⟩
      by_cases hm : p ∈ M'
      · have eo : o = .feed := hS p hm i o e (by rw [e1, e2])
        subst eo
        exact hf p hm
      · exact h.le l (fun xs e => keepL p xs hm e) (fun xs e => keepD p xs hm e)

theorem At.grow0 (I : At G B O0 M Lk δ σ τ H) (g : Gr [] [] H H') (hN : Nf H H') : At G B O0 M Lk δ σ τ H' := by
  obtain ⟨O, I⟩ := I
  exact ⟨O, I.grow g (fun _ z => nomatch z) (fun _ z => nomatch z) (fun _ z => nomatch z) (fun _ z => nomatch z) hN⟩
theorem AtO.push (I : AtO G B O0 M Lk O δ σ τ H) {v : V} {d : D} (h : Rp (vis O H) v d) : AtO G B O0 M Lk O δ σ ((v, d) :: τ) H :=
  ⟨I.sub0, I.subM, I.o0, I.new, I.live, I.gr, I.hid, I.hidT, I.feeds, I.tabs, fun p hp => by
    rcases List.mem_cons.mp hp with e | hp
    · rw [e]; exact h
    · exact I.tmp p hp, I.len, I.slots, I.sep, I.lck, I.nof⟩
theorem AtO.drops (I : AtO G B O0 M Lk O δ σ τ H) {τ' : List (V × D)} (h : ∀ p ∈ τ', p ∈ τ) : AtO G B O0 M Lk O δ σ τ' H :=
  ⟨I.sub0, I.subM, I.o0, I.new, I.live, I.gr, I.hid, I.hidT, I.feeds, I.tabs, fun p hp => I.tmp p (h p hp), I.len, I.slots, I.sep, I.lck, I.nof⟩
theorem At.drops (I : At G B O0 M Lk δ σ τ H) {τ' : List (V × D)} (h : ∀ p ∈ τ', p ∈ τ) : At G B O0 M Lk δ σ τ' H := by
  obtain ⟨O, I⟩ := I
  exact ⟨O, I.drops h⟩
/-- a scalar -/
theorem At.pushS (I : At G B O0 M Lk δ σ τ H) {v : V} {d : D} (h : ∀ H, Rp H v d) : At G B O0 M Lk δ σ ((v, d) :: τ) H := by
  obtain ⟨O, I⟩ := I
  exact ⟨O, I.push (h _)⟩
/-- a new object is laid -/
theorem nf_upd {p : Addr} {o : HO} (ho : ∀ od u, o ≠ .frz od u) : Nf H (upd H p o) := fun a od u e => by
  by_cases h : a = p
  · rw [h, upd_same] at e
    exact absurd (Option.some.inj e) (ho od u)
  · rw [upd_ne h] at e
    rw [e]
    exact fun z => nomatch z
theorem AtO.alloc (I : AtO G B O0 M Lk O δ σ τ H) {p : Addr} {o : HO} (hp : H p = none) (ho : ∀ od u, o ≠ .frz od u := by exact fun _ _ z => nomatch z) : AtO G B O0 M Lk O δ σ τ (upd H p o) ∧ p ∉ O :=
  ⟨I.grow (M' := []) (fun a u _ e => .inl (by rw [upd_ne (ne_of_none e hp)]; exact e)) (fun _ z => nomatch z) (fun _ z => nomatch z) (fun _ z => nomatch z) (fun _ z => nomatch z) (nf_upd ho), fun z => I.live p z hp⟩

theorem rpA_of {ps : List (V × D)} (h : ∀ q ∈ ps, Rp H q.1 q.2) : RpA H (ps.map (·.1)) (ps.map (·.2)) := by
  induction ps with
  | nil => exact .nil
  | cons q r ih => exact .cons (h q List.mem_cons_self) (ih fun q hq => h q (List.mem_cons_of_mem _ hq))
theorem AtO.newTup (I : AtO G B O0 M Lk O δ σ τ H) {p : Addr} {xs : List V} {ds : List D} (h : RpA (vis O H) xs ds) (hp : H p = none) : AtO G B O0 M Lk O δ σ ((.ref p, .tuple ds) :: τ) (upd H p (.tup xs)) := by
  obtain ⟨J, hn⟩ := I.alloc (o := .tup xs) hp
  exact J.push (.tup (by rw [vis_out hn, upd_same]) (h.mono (le_new hp)))
theorem AtO.newLst (I : AtO G B O0 M Lk O δ σ τ H) {p : Addr} {xs : List V} {ds : List D} (h : RpA (vis O H) xs ds) (hp : H p = none) : AtO G B O0 M Lk O δ σ ((.ref p, .list ds) :: τ) (upd H p (.lst xs)) := by
  obtain ⟨J, hn⟩ := I.alloc (o := .lst xs) hp
  exact J.push (.lst (by rw [vis_out hn, upd_same]) (h.mono (le_new hp)))
theorem AtO.slot {i : Nat} {d : D} (I : AtO G B O0 M Lk O δ σ τ H) (h : δ[i]? = some (some (.d d))) : ∃ v, σ[i]? = some (some v) ∧ Rp (vis O H) v d := I.slots i _ h
end

/-! ### the judgements -/
structure semE (X : Cx) (e : Expr) (σ : L2.St) (H : Hp) (Q : VK) : Prop where
  run : ∀ pins s, Inv X pins σ H s → wpAny (model X.prog X.w) X.A (eval e X.env) (EP X pins σ Q) X.xe s
structure semT (X : Cx) (e : Expr) (σ : L2.St) (H : Hp) (Q : Bool → Hp → Prop) : Prop where
  run : ∀ pins s, Inv X pins σ H s → wpAny (model X.prog X.w) X.A (isTrue e X.env (eval e X.env)) (TP X pins σ Q) X.xe s
structure semW (X : Cx) (e : Expr) (σ : L2.St) (H : Hp) (Q : Bool → Hp → Prop) : Prop where
  run : ∀ (whole : Sem Value) pins s, Inv X pins σ H s → wpAny (model X.prog X.w) X.A (isTrue e X.env whole) (TP X pins σ Q) X.xe s
structure semA (X : Cx) (es : List Expr) (σ : L2.St) (H : Hp) (Q : List V → Hp → Prop) : Prop where
  run : ∀ (pos : Pos) pins s, Inv X pins σ H s → wpAny (model X.prog X.w) X.A (spliced (backTo pos (starEach es X.env))) (AP X pins σ Q) X.xe s
structure semS (X : Cx) (st : Stmt) (D : Ends) (σ : L2.St) (H : Hp) : Prop where
  run : ∀ pins s, Inv X pins σ H s → wpAny (model X.prog X.w) X.A (exec st X.env) (SP X pins D) X.xe s
structure semSs (X : Cx) (st : List Stmt) (D : Ends) (σ : L2.St) (H : Hp) : Prop where
  run : ∀ pins s, Inv X pins σ H s → wpAny (model X.prog X.w) X.A (execs st X.env) (SP X pins D) X.xe s
section
variable {X : Cx} {e : Expr} {es : List Expr} {st : Stmt} {sts : List Stmt} {te : TE} {tt : TT} {ta : TA} {ts : TS} {σ : L2.St} {H : Hp}
theorem pe_sem : PE X e (semE X e) := ⟨fun pins s _ _ _ I h => h.run pins s I⟩
theorem pt_sem : PT X e (semT X e) := ⟨fun pins s _ _ _ I h => h.run pins s I⟩
theorem pw_sem : PW X e (semW X e) := ⟨fun wh pins s _ _ _ I h => h.run wh pins s I⟩
theorem pa_sem : PA X es (semA X es) := ⟨fun pos pins s _ _ _ I h => h.run pos pins s I⟩
theorem ps_sem : PS X st (semS X st) := ⟨fun pins s _ _ _ I h => h.run pins s I⟩
theorem pss_sem : PSs X sts (semSs X sts) := ⟨fun pins s _ _ _ I h => h.run pins s I⟩
theorem sem_e {Q : VK} (h : PE X e te) (q : te σ H Q) : semE X e σ H Q := ⟨fun pins s I => h.run pins s σ H Q I q⟩
theorem sem_t {Q : Bool → Hp → Prop} (h : PT X e tt) (q : tt σ H Q) : semT X e σ H Q := ⟨fun pins s I => h.run pins s σ H Q I q⟩
theorem sem_w {Q : Bool → Hp → Prop} (h : PW X e tt) (q : tt σ H Q) : semW X e σ H Q := ⟨fun wh pins s I => h.run wh pins s σ H Q I q⟩
theorem sem_a {Q : List V → Hp → Prop} (h : PA X es ta) (q : ta σ H Q) : semA X es σ H Q := ⟨fun pos pins s I => h.run pos pins s σ H Q I q⟩
theorem sem_s {D : Ends} (h : PS X st ts) (q : ts D σ H) : semS X st D σ H := ⟨fun pins s I => h.run pins s σ H D I q⟩
theorem sem_ss {D : Ends} (h : PSs X sts ts) (q : ts D σ H) : semSs X sts D σ H := ⟨fun pins s I => h.run pins s σ H D I q⟩
end

section
variable (X : Cx) (Tb : List Addr)
abbrev GX : Glo := ⟨X.K, Tb⟩
def wpE (e : Expr) (δ : Dl) (P : D → Prop) : Prop := ∀ B O0 M Lk σ τ H, At (GX X Tb) B O0 M Lk δ σ τ H → ∀ Q : VK, (∀ v d H', At (GX X Tb) B O0 M Lk δ σ ((v, d) :: τ) H' → P d → Q v H') → semE X e σ H Q
def wpT (e : Expr) (δ : Dl) (P : Bool → Prop) : Prop := ∀ B O0 M Lk σ τ H, At (GX X Tb) B O0 M Lk δ σ τ H → ∀ Q : Bool → Hp → Prop, (∀ b H', At (GX X Tb) B O0 M Lk δ σ τ H' → P b → Q b H') → semT X e σ H Q
def wpW (e : Expr) (δ : Dl) (P : Bool → Prop) : Prop := ∀ B O0 M Lk σ τ H, At (GX X Tb) B O0 M Lk δ σ τ H → ∀ Q : Bool → Hp → Prop, (∀ b H', At (GX X Tb) B O0 M Lk δ σ τ H' → P b → Q b H') → semW X e σ H Q
def wpA (es : List Expr) (δ : Dl) (P : List D → Prop) : Prop := ∀ B O0 M Lk σ τ H, At (GX X Tb) B O0 M Lk δ σ τ H → ∀ Q : List V → Hp → Prop,
  (∀ ps H', At (GX X Tb) B O0 M Lk δ σ (ps ++ τ) H' → P (ps.map (·.2)) → Q (ps.map (·.1)) H') → semA X es σ H Q
/-- an operation on two values, as data -/
def Ok2 (r : R2) (R : D → D → (D → Prop) → Prop) : Prop := ∀ {B O0 M Lk O δ σ τ H x y d1 d2 P}, AtO (GX X Tb) B O0 M Lk O δ σ τ H → Rp (vis O H) x d1 → Rp (vis O H) y d2 → R d1 d2 P → ∀ Q : VK,
  (∀ v d H', At (GX X Tb) B O0 M Lk δ σ ((v, d) :: τ) H' → P d → Q v H') → r x y H Q
/-- a call on values, as data -/
def OkC (r : List V → Hp → VK → Prop) (R : List D → (D → Prop) → Prop) : Prop := ∀ {B O0 M Lk O δ σ τ H vs ds P}, AtO (GX X Tb) B O0 M Lk O δ σ τ H → RpA (vis O H) vs ds → R ds P → ∀ Q : VK,
  (∀ v d H', At (GX X Tb) B O0 M Lk δ σ ((v, d) :: τ) H' → P d → Q v H') → r vs H Q
end

section
variable {X : Cx} {Tb : List Addr} {δ : Dl} {a b c e : Expr} {es : List Expr} {pos pos' : Pos} {P P' : D → Prop}
theorem wpE_mono (h : wpE X Tb e δ P) (hp : ∀ d, P d → P' d) : wpE X Tb e δ P' := fun B O0 M Lk σ τ H I Q q => h B O0 M Lk σ τ H I Q fun v d H' J p => q v d H' J (hp d p)
theorem wpT_mono {P P' : Bool → Prop} (h : wpT X Tb e δ P) (hp : ∀ d, P d → P' d) : wpT X Tb e δ P' := fun B O0 M Lk σ τ H I Q q => h B O0 M Lk σ τ H I Q fun d H' J p => q d H' J (hp d p)
theorem wpE_int {i j} (h : P (.int i)) : wpE X Tb (.Constant (.int i) j pos) δ P := fun _ _ _ _ _ _ H I Q q => sem_e pe_int (q _ _ H (I.pushS fun _ => .int i) h)
theorem wpE_bool {i j} (h : P (.bool i)) : wpE X Tb (.Constant (.bool i) j pos) δ P := fun _ _ _ _ _ _ H I Q q => sem_e pe_bl (q _ _ H (I.pushS fun _ => .bl i) h)
theorem wpE_none {j} (h : P .none) : wpE X Tb (.Constant .none j pos) δ P := fun _ _ _ _ _ _ H I Q q => sem_e pe_non (q _ _ H (I.pushS fun _ => .non) h)
theorem wpE_str {x j} (h : P (.str x)) : wpE X Tb (.Constant (.str x) j pos) δ P := fun _ _ _ _ _ _ H I Q q => sem_e pe_str (q _ _ H (I.pushS fun _ => .str x) h)
theorem wpE_var {x : Str} (i : Nat) {d : D} (hd : δ[i]? = some (some (.d d))) (h : P d) (hN : X.N[i]? = some x := by rfl)
    (hv : Vis X.env.scope x := by first | exact Or.inl rfl | exact Or.inr (Or.inl rfl) | exact Or.inr (Or.inr rfl)) (h1 : (x == ("__debug__" : Str)) = false := by decide) (h2 : (x == ("__classdict__" : Str)) = false := by decide) : wpE X Tb (.Name x pos) δ P := fun _ _ _ _ _ _ H I Q q => by
  obtain ⟨O, I⟩ := I
  obtain ⟨v, e1, r⟩ := I.slot hd
  exact sem_e (pe_var hN hv h1 h2) ⟨v, e1, q v d H ⟨O, I.push r⟩ h⟩
/-- a module's int, text -/
theorem wpE_globI {x : Str} {i : Int} {t : Tok} (hm : X.mg x = some (.int i t)) (h : P (.int i)) (hg : Gl X x := by rfl) (hd : (x == ("__debug__" : Str)) = false := by decide) : wpE X Tb (.Name x pos) δ P := fun _ _ _ _ _ _ H I Q q =>
  sem_e (pe_glob (v := .int i) hg hm ⟨t, rfl⟩ hd) (q _ _ H (I.pushS fun _ => .int i) h)
theorem wpE_globS {x y : Str} {t : Tok} (hm : X.mg x = some (.str y t)) (h : P (.str y)) (hg : Gl X x := by rfl) (hd : (x == ("__debug__" : Str)) = false := by decide) : wpE X Tb (.Name x pos) δ P := fun _ _ _ _ _ _ H I Q q =>
  sem_e (pe_glob (v := .str y) hg hm ⟨t, rfl⟩ hd) (q _ _ H (I.pushS fun _ => .str y) h)

theorem AtO.pop2 {G : Glo} {B : Hp} {O0 M O : List Addr} {Lk : Lks} {σ : L2.St} {τ : List (V × D)} {H : Hp} {p q : V × D} (I : AtO G B O0 M Lk O δ σ (p :: q :: τ) H) : AtO G B O0 M Lk O δ σ τ H ∧ Rp (vis O H) q.1 q.2 ∧ Rp (vis O H) p.1 p.2 :=
  ⟨I.drops fun x hx => by simp [hx], I.tmp q (by simp), I.tmp p (by simp)⟩
theorem AtO.pop1 {G : Glo} {B : Hp} {O0 M O : List Addr} {Lk : Lks} {σ : L2.St} {τ : List (V × D)} {H : Hp} {p : V × D} (I : AtO G B O0 M Lk O δ σ (p :: τ) H) : AtO G B O0 M Lk O δ σ τ H ∧ Rp (vis O H) p.1 p.2 :=
  ⟨I.drops fun x hx => by simp [hx], I.tmp p (by simp)⟩
theorem wpE_bin {op : Operator} {r : R2} {R : D → D → (D → Prop) → Prop} (ho : OpR X (binaryOp op) r) (hr : Ok2 X Tb r R) (h : wpE X Tb a δ fun d1 => wpE X Tb b δ fun d2 => R d1 d2 P) : wpE X Tb (.BinOp a op b pos) δ P := fun B O0 M Lk σ τ H I Q q =>
  sem_e (pe_op ho pe_sem pe_sem) (h B O0 M Lk σ τ H I _ fun x d1 H1 I1 h1 => h1 B O0 M Lk σ _ H1 I1 _ fun y d2 H2 I2 h2 => by
    obtain ⟨O, J⟩ := I2
    obtain ⟨J0, rx, ry⟩ := J.pop2
    exact hr J0 rx ry h2 Q q)
theorem wpE_cmp {op : CmpOp} {r : R2} {R : D → D → (D → Prop) → Prop} (ho : OpR X (compareOp op) r) (hr : Ok2 X Tb r R) (hm : behindInMarks op b = false) (h : wpE X Tb a δ fun d1 => wpE X Tb b δ fun d2 => R d1 d2 P) : wpE X Tb (.Compare a [op] [b] pos) δ P := fun B O0 M Lk σ τ H I Q q =>
  sem_e (pe_cmpR ho pe_sem pe_sem hm) (h B O0 M Lk σ τ H I _ fun x d1 H1 I1 h1 => h1 B O0 M Lk σ _ H1 I1 _ fun y d2 H2 I2 h2 => by
    obtain ⟨O, J⟩ := I2
    obtain ⟨J0, rx, ry⟩ := J.pop2
    exact hr J0 rx ry h2 Q q)
theorem wpT_cmp {op : CmpOp} {r : R2} {R : D → D → (D → Prop) → Prop} {P : Bool → Prop} (ho : OpR X (compareOp op) r) (hr : Ok2 X Tb r R) (hm : behindInMarks op b = false) (h : wpE X Tb a δ fun d1 => wpE X Tb b δ fun d2 => R d1 d2 fun d => ∃ k, d = .bool k ∧ P k) : wpT X Tb (.Compare a [op] [b] pos) δ P := fun B O0 M Lk σ τ H I Q q =>
  sem_t (pt_cmpR ho pe_sem pe_sem hm) (h B O0 M Lk σ τ H I _ fun x d1 H1 I1 h1 => h1 B O0 M Lk σ _ H1 I1 _ fun y d2 H2 I2 h2 => by
    obtain ⟨O, J⟩ := I2
    obtain ⟨J0, rx, ry⟩ := J.pop2
    refine hr J0 rx ry h2 _ fun v d H' J' h3 => ?_
    obtain ⟨k, rfl, h3⟩ := h3
    obtain ⟨O', J'⟩ := J'
    obtain ⟨J1, rk⟩ := J'.pop1
    cases rk
    exact ⟨k, rfl, q k H' ⟨O', J1⟩ h3⟩)
/-- a bool's expression, as a test -/
theorem wpT_val {P : Bool → Prop} (h : wpE X Tb e δ fun d => ∃ k, d = .bool k ∧ P k) (he : ∀ whole, isTrue e X.env whole = (do let v ← whole; standAt e.pos; holding [v] (truthy v)) := by intro _; rfl) : wpT X Tb e δ P := fun B O0 M Lk σ τ H I Q q =>
  sem_t (pt_val pe_sem he) (h B O0 M Lk σ τ H I _ fun v d H' J' h3 => by
    obtain ⟨k, rfl, h3⟩ := h3
    obtain ⟨O', J'⟩ := J'
    obtain ⟨J1, rk⟩ := J'.pop1
    cases rk
    exact ⟨k, rfl, q k H' ⟨O', J1⟩ h3⟩)
theorem wpT_not {P : Bool → Prop} (h : wpT X Tb a δ fun k => P (!k)) : wpT X Tb (.UnaryOp .Not a pos) δ P := fun B O0 M Lk σ τ H I Q q =>
  sem_t (pt_not pt_sem) (h B O0 M Lk σ τ H I _ fun k H' J h3 => q (!k) H' J h3)
theorem wpT_W {P : Bool → Prop} (h : wpW X Tb e δ P) : wpT X Tb e δ P := fun B O0 M Lk σ τ H I Q q => ⟨(h B O0 M Lk σ τ H I Q q).run _⟩
theorem wpW_and1 {P : Bool → Prop} (h : wpT X Tb a δ P) : wpW X Tb (.BoolOp .And [a] pos) δ P := fun B O0 M Lk σ τ H I Q q =>
  sem_w (pw_and1 pt_sem) (h B O0 M Lk σ τ H I _ q)
theorem wpW_or1 {P : Bool → Prop} (h : wpT X Tb a δ P) : wpW X Tb (.BoolOp .Or [a] pos) δ P := fun B O0 M Lk σ τ H I Q q =>
  sem_w (pw_or1 pt_sem) (h B O0 M Lk σ τ H I _ q)
theorem wpW_and {P : Bool → Prop} (h : wpT X Tb a δ fun k => if k = true then wpW X Tb (.BoolOp .And (b :: es) pos) δ P else P false) : wpW X Tb (.BoolOp .And (a :: b :: es) pos) δ P := fun B O0 M Lk σ τ H I Q q =>
  sem_w (pw_and pt_sem pw_sem) (h B O0 M Lk σ τ H I _ fun k H' J h3 => by
    cases k with
    | true => exact h3 B O0 M Lk σ τ H' J Q q
    | false => exact q false H' J h3)
theorem wpW_or {P : Bool → Prop} (h : wpT X Tb a δ fun k => if k = true then P true else wpW X Tb (.BoolOp .Or (b :: es) pos) δ P) : wpW X Tb (.BoolOp .Or (a :: b :: es) pos) δ P := fun B O0 M Lk σ τ H I Q q =>
  sem_w (pw_or pt_sem pw_sem) (h B O0 M Lk σ τ H I _ fun k H' J h3 => by
    cases k with
    | true => exact q true H' J h3
    | false => exact h3 B O0 M Lk σ τ H' J Q q)
/-- and, or, not of bools, as values -/
theorem wpE_one {op} (h : wpE X Tb a δ P) : wpE X Tb (.BoolOp op [a] pos) δ P := fun B O0 M Lk σ τ H I Q q => sem_e (pe_one pe_sem) (h B O0 M Lk σ τ H I Q q)
theorem At.pop {G : Glo} {B : Hp} {O0 M : List Addr} {Lk : Lks} {σ : L2.St} {τ : List (V × D)} {H : Hp} {p : V × D} (I : At G B O0 M Lk δ σ (p :: τ) H) : At G B O0 M Lk δ σ τ H := I.drops fun x hx => by simp [hx]
theorem wpE_and (h : wpE X Tb a δ fun d => ∃ k, d = .bool k ∧ if k = true then wpE X Tb (.BoolOp .And (b :: es) pos) δ P else P (.bool false)) : wpE X Tb (.BoolOp .And (a :: b :: es) pos) δ P := fun B O0 M Lk σ τ H I Q q =>
  sem_e (pe_and pe_sem pe_sem) (h B O0 M Lk σ τ H I _ fun v d H' J h3 => by
    obtain ⟨k, rfl, h3⟩ := h3
    obtain ⟨O', J'⟩ := J
    obtain ⟨J1, rk⟩ := J'.pop1
    cases rk
    refine ⟨k, rfl, ?_⟩
    cases k with
    | true => exact h3 B O0 M Lk σ τ H' ⟨O', J1⟩ Q q
    | false => exact q _ _ H' ⟨O', J'⟩ h3)
theorem wpE_or (h : wpE X Tb a δ fun d => ∃ k, d = .bool k ∧ if k = true then P (.bool true) else wpE X Tb (.BoolOp .Or (b :: es) pos) δ P) : wpE X Tb (.BoolOp .Or (a :: b :: es) pos) δ P := fun B O0 M Lk σ τ H I Q q =>
  sem_e (pe_or pe_sem pe_sem) (h B O0 M Lk σ τ H I _ fun v d H' J h3 => by
    obtain ⟨k, rfl, h3⟩ := h3
    obtain ⟨O', J'⟩ := J
    obtain ⟨J1, rk⟩ := J'.pop1
    cases rk
    refine ⟨k, rfl, ?_⟩
    cases k with
    | true => exact q _ _ H' ⟨O', J'⟩ h3
    | false => exact h3 B O0 M Lk σ τ H' ⟨O', J1⟩ Q q)
theorem wpE_not (h : wpE X Tb a δ fun d => ∃ k, d = .bool k ∧ P (.bool (!k))) : wpE X Tb (.UnaryOp .Not a pos) δ P := fun B O0 M Lk σ τ H I Q q =>
  sem_e (pe_not pe_sem) (h B O0 M Lk σ τ H I _ fun v d H' J h3 => by
    obtain ⟨k, rfl, h3⟩ := h3
    obtain ⟨O', J'⟩ := J
    obtain ⟨J1, rk⟩ := J'.pop1
    cases rk
    exact ⟨k, rfl, q _ _ H' ⟨O', J1.push (.bl _)⟩ h3⟩)
theorem wpE_ifExp (h : wpT X Tb c δ fun k => if k = true then wpE X Tb a δ P else wpE X Tb b δ P) : wpE X Tb (.IfExp c a b pos) δ P := fun B O0 M Lk σ τ H I Q q =>
  sem_e (pe_ifExp pt_sem pe_sem pe_sem) (h B O0 M Lk σ τ H I _ fun k H' J h3 => by
    cases k with
    | true => exact h3 B O0 M Lk σ τ H' J Q q
    | false => exact h3 B O0 M Lk σ τ H' J Q q)
/-- arguments -/
theorem wpA_nil {P : List D → Prop} (h : P []) : wpA X Tb [] δ P := fun B O0 M Lk σ τ H I Q q => sem_a pa_nil (q [] H I h)
theorem wpA_cons {P : List D → Prop} (h : wpE X Tb e δ fun d => wpA X Tb es δ fun ds => P (d :: ds)) (hs : starEach (e :: es) X.env = (false, eval e X.env) :: starEach es X.env := by rfl) : wpA X Tb (e :: es) δ P := fun B O0 M Lk σ τ H I Q q =>
  sem_a (pa_cons pe_sem pa_sem hs) (h B O0 M Lk σ τ H I _ fun v d H' J h3 => h3 B O0 M Lk σ _ H' J _ fun ps H2 J2 h4 => q ((v, d) :: ps) H2 (J2.drops fun p hp => by
    simp only [List.cons_append, List.mem_cons, List.mem_append] at hp ⊢
    rcases hp with e | e | e
    · exact .inr (.inl e)
    · exact .inl e
    · exact .inr (.inr e)) h4)
theorem AtO.popA {G : Glo} {B : Hp} {O0 M O : List Addr} {Lk : Lks} {σ : L2.St} {τ ps : List (V × D)} {H : Hp} (I : AtO G B O0 M Lk O δ σ (ps ++ τ) H) : AtO G B O0 M Lk O δ σ τ H ∧ RpA (vis O H) (ps.map (·.1)) (ps.map (·.2)) :=
  ⟨I.drops fun x hx => List.mem_append.mpr (.inr hx), rpA_of fun q hq => I.tmp q (List.mem_append.mpr (.inl hq))⟩
theorem wpE_tup {k} (h : wpA X Tb es δ fun ds => ds.length ≤ sizeLine ∧ P (.tuple ds)) : wpE X Tb (.Tuple es k pos) δ P := fun B O0 M Lk σ τ H I Q q =>
  sem_e (pe_tup pa_sem) (h B O0 M Lk σ τ H I _ fun ps H' J h3 => by
    obtain ⟨O, J⟩ := J
    obtain ⟨J0, r⟩ := J.popA
    exact ⟨by rw [r.length]; exact h3.1, fun p hp => q _ _ _ ⟨O, J0.newTup r hp⟩ h3.2⟩)
theorem wpE_lst (h : wpA X Tb es δ fun ds => ds.length ≤ sizeLine ∧ P (.list ds)) : wpE X Tb (.List es pos) δ P := fun B O0 M Lk σ τ H I Q q =>
  sem_e (pe_lst pa_sem) (h B O0 M Lk σ τ H I _ fun ps H' J h3 => by
    obtain ⟨O, J⟩ := J
    obtain ⟨J0, r⟩ := J.popA
    exact ⟨by rw [r.length]; exact h3.1, fun p hp => q _ _ _ ⟨O, J0.newLst r hp⟩ h3.2⟩)
/-- calls of built-ins -/
theorem wpE_callB {x : Str} {idS : String} {r : List V → Hp → VK → Prop} {R : List D → (D → Prop) → Prop} {p : Pos} (hc : CallR X (.builtin idS) r) (hr : OkC X Tb r R) (hm : X.mg x = none) (hv : bootBuiltins x = some (.builtin idS)) (h : wpA X Tb (e :: es) δ fun ds => R ds P)
    (hg : Gl X x := by rfl) (hn : x ≠ "__name__" := by decide) (hdb : (x == ("__debug__" : Str)) = false := by decide)
    (he : starEach (e :: es) X.env = (false, eval e X.env) :: starEach es X.env := by rfl) (hpl : (backTo pos (starEach es X.env)).any (·.1) = false := by rfl) : wpE X Tb (.Call (.Name x p) (e :: es) [] pos) δ P := fun B O0 M Lk σ τ H I Q q =>
  sem_e (pe_callB hc hg hm hv pa_sem hn hdb he hpl) (h B O0 M Lk σ τ H I _ fun ps H' J h3 => by
    obtain ⟨O, J⟩ := J
    obtain ⟨J0, rr⟩ := J.popA
    exact hr J0 rr h3 Q q)
theorem wpE_callTy {x : Str} {T : String} {r : List V → Hp → VK → Prop} {R : List D → (D → Prop) → Prop} {p : Pos} (hc : CallR X (.type T) r) (hr : OkC X Tb r R) (hm : X.mg x = none) (hv : bootBuiltins x = some (.type T)) (h : wpA X Tb (e :: es) δ fun ds => R ds P)
    (hg : Gl X x := by rfl) (hn : x ≠ "__name__" := by decide) (hdb : (x == ("__debug__" : Str)) = false := by decide)
    (he : starEach (e :: es) X.env = (false, eval e X.env) :: starEach es X.env := by rfl) (hpl : (backTo pos (starEach es X.env)).any (·.1) = false := by rfl) : wpE X Tb (.Call (.Name x p) (e :: es) [] pos) δ P := fun B O0 M Lk σ τ H I Q q =>
  sem_e (pe_callTy hc hg hm hv pa_sem hn hdb he hpl) (h B O0 M Lk σ τ H I _ fun ps H' J h3 => by
    obtain ⟨O, J⟩ := J
    obtain ⟨J0, rr⟩ := J.popA
    exact hr J0 rr h3 Q q)
end
end DL

set_option Elab.async false
set_option linter.all false
set_option maxRecDepth 100000
set_option maxHeartbeats 2000000
/-! DL2: operators, items, calls by name. -/
namespace DL
open PySem PySem.Spec L2

/-! ### inversion -/
section
variable {H : Hp} {v : V}
theorem Rp.int' {i : Int} (h : Rp H v (.int i)) : v = .int i := by cases h; rfl
theorem Rp.str' {x : Str} (h : Rp H v (.str x)) : v = .str x := by cases h; rfl
theorem Rp.bool' {x : Bool} (h : Rp H v (.bool x)) : v = .bl x := by cases h; rfl
theorem Rp.none' (h : Rp H v .none) : v = .non := by cases h; rfl
theorem Rp.list' {ds : List D} (h : Rp H v (.list ds)) : ∃ a xs, v = .ref a ∧ H a = some (.lst xs) ∧ RpA H xs ds := by
  cases h with | lst h r => exact ⟨_, _, rfl, h, r⟩
theorem Rp.tuple' {ds : List D} (h : Rp H v (.tuple ds)) : ∃ a xs, v = .ref a ∧ H a = some (.tup xs) ∧ RpA H xs ds := by
  cases h with | tup h r => exact ⟨_, _, rfl, h, r⟩
theorem Rp.dict' {ds : List (D × D)} (h : Rp H v (.dict ds)) : ∃ a kvs, v = .ref a ∧ Rd H a (.dK kvs) ∧ (kvs.map (·.1)).Nodup ∧ RpK H kvs ds := by
  cases h with | dic h n r => exact ⟨_, _, rfl, h, n, r⟩
theorem RpA.one' {vs : List V} {d : D} (h : RpA H vs [d]) : ∃ v, vs = [v] ∧ Rp H v d := by
  cases h with | cons h r => cases r with | nil => exact ⟨_, rfl, h⟩
theorem RpA.two' {vs : List V} {d e : D} (h : RpA H vs [d, e]) : ∃ v u, vs = [v, u] ∧ Rp H v d ∧ Rp H u e := by
  cases h with | cons h r => cases r with | cons h2 r => cases r with | nil => exact ⟨_, _, rfl, h, h2⟩
end
mutual
/-- no dict within -/
def nd : D → Bool
  | .list ds => ndA ds
  | .tuple ds => ndA ds
  | .dict _ => false
  | _ => true
def ndA : List D → Bool
  | [] => true
  | d :: ds => nd d && ndA ds
end
mutual
theorem Rp.dp {K : PySem.W.Frag} {O : List Addr} {H : Hp} : ∀ {v : V} {d : D}, Rp (vis O H) v d → nd d = true → Dp K H v d
  | _, _, .non, _ => .non
  | _, _, .bl b, _ => .bl b
  | _, _, .int b, _ => .int b
  | _, _, .str b, _ => .str b
  | _, _, .lst h r, n => .lst (SqL.of (vis_some h).2) (RpA.dp r n)
  | _, _, .tup h r, n => .tup (SqT.of (vis_some h).2) (RpA.dp r n)
  | _, _, .dic _ _ _, n => nomatch n
theorem RpA.dp {K : PySem.W.Frag} {O : List Addr} {H : Hp} : ∀ {v : List V} {d : List D}, RpA (vis O H) v d → ndA d = true → DpAll K H v d
  | _, _, .nil, _ => .nil
  | _, _, .cons h r, n => by
    unfold ndA at n
    rw [Bool.and_eq_true] at n
    exact .cons (Rp.dp h n.1) (RpA.dp r n.2)
end

/-! ### what operators do with data -/
def addR : D → D → (D → Prop) → Prop
  | .int i, .int j, P => P (.int (i + j))
  | .str x, .str y, P => x.length + y.length ≤ sizeLine ∧ P (.str (x ++ y))
  | .list xs, .list ys, P => xs.length + ys.length ≤ sizeLine ∧ P (.list (xs ++ ys))
  | .tuple xs, .tuple ys, P => (xs ≠ [] ∧ xs.length + ys.length ≤ sizeLine) ∧ P (.tuple (xs ++ ys))
  | _, _, _ => False
def subR : D → D → (D → Prop) → Prop
  | .int i, .int j, P => P (.int (i - j))
  | _, _, _ => False
def mulR : D → D → (D → Prop) → Prop
  | .int i, .int j, P => CMul i j ∧ P (.int (i * j))
  | .list xs, .int k, P => (-(2 ^ 63) ≤ k ∧ k < 2 ^ 63 ∧ xs.length * k.toNat ≤ sizeLine) ∧ P (.list (List.replicate k.toNat xs).flatten)
  | _, _, _ => False
def modR : D → D → (D → Prop) → Prop
  | .int i, .int j, P => 0 < j ∧ P (.int (i % j))
  | _, _, _ => False
def fdivR : D → D → (D → Prop) → Prop
  | .int i, .int j, P => CDiv i j ∧ P (.int (i / j))
  | _, _, _ => False
def powR : D → D → (D → Prop) → Prop
  | .int i, .int j, P => CPow i j ∧ P (.int (i ^ j.toNat))
  | _, _, _ => False
def ltR (f : Int → Int → Bool) : D → D → (D → Prop) → Prop
  | .int i, .int j, P => P (.bool (f i j))
  | _, _, _ => False
def eqR (f : Bool → Bool) : D → D → (D → Prop) → Prop
  | .int i, .int j, P => P (.bool (f (decide (i = j))))
  | .str i, .str j, P => P (.bool (f (decide (i = j))))
  | .bool i, .bool j, P => P (.bool (f (decide (i = j))))
  | .none, .none, P => P (.bool (f true))
  | .none, .str _, P => P (.bool (f false))
  | .str _, .none, P => P (.bool (f false))
  | .none, .int _, P => P (.bool (f false))
  | .int _, .none, P => P (.bool (f false))
  | .int _, .str _, P => P (.bool (f false))
  | .str _, .int _, P => P (.bool (f false))
  | d, e, P => (nd d = true ∧ nd e = true ∧ SeqAt.shaped d = true ∧ SeqAt.shaped e = true) ∧ P (.bool (f (PyData.eqv d e)))
def isR (f : Bool → Bool) : D → D → (D → Prop) → Prop
  | .none, .none, P => P (.bool (f true))
  | _, .none, P => P (.bool (f false))
  | _, _, _ => False

section
variable {X : Cx} {Tb : List Addr}
theorem ok_int2 {r : R2} {C : Int → Int → Prop} {g : Int → Int → V} {g' : Int → Int → D} (hg : ∀ i j H, Rp H (g i j) (g' i j)) {i j : Int} {P : D → Prop} {B : Hp} {O0 M O : List Addr} {Lk : Lks} {δ : Dl} {σ : L2.St} {τ : List (V × D)} {H : Hp}
    (I : AtO (GX X Tb) B O0 M Lk O δ σ τ H) {Q : VK} (q : ∀ v d H', At (GX X Tb) B O0 M Lk δ σ ((v, d) :: τ) H' → P d → Q v H') (p : P (g' i j)) : Q (g i j) H := q _ _ H ⟨O, I.push (hg i j _)⟩ p
theorem op_addD : OpR X (binaryOp .Add) (fun x y H Q => (∃ i j, x = .int i ∧ y = .int j ∧ Q (.int (i + j)) H) ∨ (∃ i j, x = .str i ∧ y = .str j ∧ i.length + j.length ≤ sizeLine ∧ Q (.str (i ++ j)) H) ∨ rCat x y H Q ∨ rCatT X.K x y H Q) :=
  OpR.or op_add (OpR.or op_add_str (OpR.or op_cat op_catT))
theorem ok_add : Ok2 X Tb (fun x y H Q => (∃ i j, x = .int i ∧ y = .int j ∧ Q (.int (i + j)) H) ∨ (∃ i j, x = .str i ∧ y = .str j ∧ i.length + j.length ≤ sizeLine ∧ Q (.str (i ++ j)) H) ∨ rCat x y H Q ∨ rCatT X.K x y H Q) addR := by
  intro B O0 M Lk O δ σ τ H x y d1 d2 P I rx ry h Q q
  unfold addR at h
  split at h
  · rw [rx.int', ry.int']
    exact .inl ⟨_, _, rfl, rfl, q _ _ H ⟨O, I.push (.int _)⟩ h⟩
  · rw [rx.str', ry.str']
    exact .inr (.inl ⟨_, _, rfl, rfl, h.1, q _ _ H ⟨O, I.push (.str _)⟩ h.2⟩)
  · obtain ⟨a, xs, rfl, ha, ra⟩ := rx.list'
    obtain ⟨b, ys, rfl, hb, rb⟩ := ry.list'
    exact .inr (.inr (.inl ⟨a, b, xs, ys, rfl, rfl, (vis_some ha).2, (vis_some hb).2, by rw [ra.length, rb.length]; exact h.1, fun p hp => q _ _ _ ⟨O, I.newLst (ra.append rb) hp⟩ h.2⟩))
  · obtain ⟨a, xs, rfl, ha, ra⟩ := rx.tuple'
    obtain ⟨b, ys, rfl, hb, rb⟩ := ry.tuple'
    refine .inr (.inr (.inr ⟨a, b, xs, ys, rfl, rfl, SqT.of (vis_some ha).2, SqT.of (vis_some hb).2, fun e => h.1.1 ?_, by rw [ra.length, rb.length]; exact h.1.2, fun e => ?_, fun e p hp => q _ _ _ ⟨O, I.newTup (ra.append rb) hp⟩ h.2⟩))
    · subst e
      cases ra
      rfl
    · subst e
      cases rb
      refine q _ _ H ⟨O, I.push (.tup ha ?_)⟩ h.2
      rw [List.append_nil]
      exact ra
  · exact h.elim
theorem ok_sub : Ok2 X Tb (rI0 fun i j => .int (i - j)) subR := by
  intro B O0 M Lk O δ σ τ H x y d1 d2 P I rx ry h Q q
  unfold subR at h
  split at h
  · rw [rx.int', ry.int']
    exact ⟨_, _, rfl, rfl, q _ _ H ⟨O, I.push (.int _)⟩ h⟩
  · exact h.elim
theorem op_mulD : OpR X (binaryOp .Mult) (fun x y H Q => rI CMul (fun i j => .int (i * j)) x y H Q ∨ rRep x y H Q) := OpR.or op_mul op_rep
theorem ok_mul : Ok2 X Tb (fun x y H Q => rI CMul (fun i j => .int (i * j)) x y H Q ∨ rRep x y H Q) mulR := by
  intro B O0 M Lk O δ σ τ H x y d1 d2 P I rx ry h Q q
  unfold mulR at h
  split at h
  · rw [rx.int', ry.int']
    exact .inl ⟨_, _, rfl, rfl, h.1, q _ _ H ⟨O, I.push (.int _)⟩ h.2⟩
  · obtain ⟨a, xs, rfl, ha, ra⟩ := rx.list'
    rw [ry.int']
    refine .inr ⟨a, _, xs, rfl, rfl, (vis_some ha).2, h.1.1, h.1.2.1, by rw [ra.length]; exact h.1.2.2, fun p hp => q _ _ _ ⟨O, I.newLst ?_ hp⟩ h.2⟩
    generalize Int.toNat _ = n
    induction n with
    | zero => exact .nil
    | succ n ih =>
      rw [List.replicate_succ, List.flatten_cons, List.replicate_succ, List.flatten_cons]
      exact ra.append ih
  · exact h.elim
theorem ok_mod : Ok2 X Tb (rI (fun _ j => 0 < j) fun i j => .int (i % j)) modR := by
  intro B O0 M Lk O δ σ τ H x y d1 d2 P I rx ry h Q q
  unfold modR at h
  split at h
  · rw [rx.int', ry.int']
    exact ⟨_, _, rfl, rfl, h.1, q _ _ H ⟨O, I.push (.int _)⟩ h.2⟩
  · exact h.elim
theorem ok_fdiv : Ok2 X Tb (rI CDiv fun i j => .int (i / j)) fdivR := by
  intro B O0 M Lk O δ σ τ H x y d1 d2 P I rx ry h Q q
  unfold fdivR at h
  split at h
  · rw [rx.int', ry.int']
    exact ⟨_, _, rfl, rfl, h.1, q _ _ H ⟨O, I.push (.int _)⟩ h.2⟩
  · exact h.elim
theorem ok_pow : Ok2 X Tb (rI CPow fun i j => .int (i ^ j.toNat)) powR := by
  intro B O0 M Lk O δ σ τ H x y d1 d2 P I rx ry h Q q
  unfold powR at h
  split at h
  · rw [rx.int', ry.int']
    exact ⟨_, _, rfl, rfl, h.1, q _ _ H ⟨O, I.push (.int _)⟩ h.2⟩
  · exact h.elim
theorem ok_lt {f : Int → Int → Bool} : Ok2 X Tb (rI0 fun i j => .bl (f i j)) (ltR f) := by
  intro B O0 M Lk O δ σ τ H x y d1 d2 P I rx ry h Q q
  unfold ltR at h
  split at h
  · rw [rx.int', ry.int']
    exact ⟨_, _, rfl, rfl, q _ _ H ⟨O, I.push (.bl _)⟩ h⟩
  · exact h.elim
theorem op_eqDD (hu : X.A.units + 64 < cLine) : OpR X (compareOp .Eq) (fun x y H Q => rEq x y H Q ∨ rEqD X.K x y H Q) := OpR.or op_eq (op_eqD hu)
theorem op_neDD (hu : X.A.units + 64 < cLine) : OpR X (compareOp .NotEq) (fun x y H Q => rNe x y H Q ∨ rNeD X.K x y H Q) := OpR.or op_ne (op_neD hu)
theorem eqR_cases {f : Bool → Bool} {d1 d2 : D} {P : D → Prop} {O : List Addr} {H : Hp} {x y : V} (rx : Rp (vis O H) x d1) (ry : Rp (vis O H) y d2) (h : eqR f d1 d2 P) :
    (scal x y = true ∧ P (.bool (f (decide (x = y))))) ∨ (∀ K : PySem.W.Frag, Dp K H x d1 ∧ Dp K H y d2 ∧ SeqAt.shaped d1 = true ∧ SeqAt.shaped d2 = true ∧ P (.bool (f (PyData.eqv d1 d2)))) := by
  have fin : ((nd d1 = true ∧ nd d2 = true ∧ SeqAt.shaped d1 = true ∧ SeqAt.shaped d2 = true) ∧ P (.bool (f (PyData.eqv d1 d2)))) → (∀ K : PySem.W.Frag, Dp K H x d1 ∧ Dp K H y d2 ∧ SeqAt.shaped d1 = true ∧ SeqAt.shaped d2 = true ∧ P (.bool (f (PyData.eqv d1 d2)))) :=
    fun h K => ⟨rx.dp h.1.1, ry.dp h.1.2.1, h.1.2.2.1, h.1.2.2.2, h.2⟩
  unfold eqR at h
  split at h
  · rw [rx.int', ry.int']; exact .inl ⟨rfl, by simpa using h⟩
  · rw [rx.str', ry.str']; exact .inl ⟨rfl, by simpa using h⟩
  · rw [rx.bool', ry.bool']; exact .inl ⟨rfl, by simpa using h⟩
  · rw [rx.none', ry.none']; exact .inl ⟨rfl, by simpa using h⟩
  · rw [rx.none', ry.str']; exact .inl ⟨rfl, by simpa using h⟩
  · rw [rx.str', ry.none']; exact .inl ⟨rfl, by simpa using h⟩
  · rw [rx.none', ry.int']; exact .inl ⟨rfl, by simpa using h⟩
  · rw [rx.int', ry.none']; exact .inl ⟨rfl, by simpa using h⟩
  · rw [rx.int', ry.str']; exact .inl ⟨rfl, by simpa using h⟩
  · rw [rx.str', ry.int']; exact .inl ⟨rfl, by simpa using h⟩
  · exact .inr (fin h)
theorem ok_eq : Ok2 X Tb (fun x y H Q => rEq x y H Q ∨ rEqD X.K x y H Q) (eqR fun k => k) := by
  intro B O0 M Lk O δ σ τ H x y d1 d2 P I rx ry h Q q
  rcases eqR_cases rx ry h with ⟨h1, h2⟩ | h
  · exact .inl ⟨h1, q _ _ H ⟨O, I.push (.bl _)⟩ h2⟩
  · obtain ⟨h1, h2, h3, h4, h5⟩ := h X.K
    exact .inr ⟨_, _, h1, h2, h3, h4, q _ _ H ⟨O, I.push (.bl _)⟩ h5⟩
theorem ok_ne : Ok2 X Tb (fun x y H Q => rNe x y H Q ∨ rNeD X.K x y H Q) (eqR fun k => !k) := by
  intro B O0 M Lk O δ σ τ H x y d1 d2 P I rx ry h Q q
  rcases eqR_cases rx ry h with ⟨h1, h2⟩ | h
  · exact .inl ⟨h1, q _ _ H ⟨O, I.push (.bl _)⟩ h2⟩
  · obtain ⟨h1, h2, h3, h4, h5⟩ := h X.K
    exact .inr ⟨_, _, h1, h2, h3, h4, q _ _ H ⟨O, I.push (.bl _)⟩ h5⟩
theorem ok_is : Ok2 X Tb (fun x y H Q => y = .non ∧ Q (.bl (decide (x = .non))) H) (isR fun k => k) := by
  intro B O0 M Lk O δ σ τ H x y d1 d2 P I rx ry h Q q
  unfold isR at h
  split at h
  · rw [rx.none', ry.none']
    exact ⟨rfl, q _ _ H ⟨O, I.push (.bl _)⟩ h⟩
  · rename_i hn
    rw [ry.none']
    refine ⟨rfl, ?_⟩
    have e : decide (x = V.non) = false := decide_eq_false fun z => hn (by subst z; cases rx; rfl)
    rw [e]
    exact q _ _ H ⟨O, I.push (.bl _)⟩ h
  · exact h.elim
theorem ok_isnot : Ok2 X Tb (fun x y H Q => y = .non ∧ Q (.bl (!decide (x = .non))) H) (isR fun k => !k) := by
  intro B O0 M Lk O δ σ τ H x y d1 d2 P I rx ry h Q q
  unfold isR at h
  split at h
  · rw [rx.none', ry.none']
    exact ⟨rfl, q _ _ H ⟨O, I.push (.bl _)⟩ h⟩
  · rename_i hn
    rw [ry.none']
    refine ⟨rfl, ?_⟩
    have e : decide (x = V.non) = false := decide_eq_false fun z => hn (by subst z; cases rx; rfl)
    rw [e]
    exact q _ _ H ⟨O, I.push (.bl _)⟩ h
  · exact h.elim
end
end DL

set_option Elab.async false
set_option linter.all false
set_option maxRecDepth 100000
set_option maxHeartbeats 2000000
/-! GX: any and all of a generator expression whose elements may call and store. -/
namespace GX
open PySem PySem.Spec L2
open Sem (wp)

/-! ### the list of generators never becomes shorter -/
theorem runs_gens {M : Model} {Γ : PySem.Ctx} {p : Pos} {t : Sem Fin} {fs : List Frame} {a b : Shared} {e : End} (r : Runs M Γ p t fs a e b) : a.gens.size ≤ b.gens.size := by
  induction r <;> (try simp only [Shared.setGen, Array.size_setIfInBounds, Array.size_push] at *) <;> omega
theorem wakes_gens {M : Model} {Γ : PySem.Ctx} {p : Pos} {g : Nat} {r : Resume} {a b : Shared} {res : GenResult} (h : Wakes M Γ p g r a res b) : a.gens.size ≤ b.gens.size := by
  have key : ∀ {Γ' : PySem.Ctx} {p' : Pos} {t : Sem Fin} {fs : List Frame} {e : End} {c d : Shared}, Runs M Γ' p' t fs (a.setGen g .running) e c → d = c.setGen g e.genState → a.gens.size ≤ d.gens.size := fun hr he => by
    have := runs_gens hr
    rw [he]
    simp only [Shared.setGen, Array.size_setIfInBounds] at this ⊢
    exact this
  unfold Wakes at h
  split at h
  · exact h.elim
  · split at h
    · obtain ⟨e₁, c, hr, _, _, he⟩ := h
      exact key hr he
    · rw [h.2]
      exact Nat.le_refl _
    · rw [h.2]
      simp [Shared.setGen]
  · obtain ⟨e₁, c, hr, _, _, he⟩ := h
    exact key hr he
  · rw [h.2]
    exact Nat.le_refl _
  · rw [h.2]
    exact Nat.le_refl _
theorem wp_gens {α : Type} (M : Model) (Γ : PySem.Ctx) (n : Nat) (t : Sem α) : ∀ (Q : α → Pos → Shared → Prop) (E : Value → Pos → Shared → Prop) (p : Pos) (s : Shared), n ≤ s.gens.size → wp M Γ t Q E p s →
    wp M Γ t (fun a p' z => n ≤ z.gens.size ∧ Q a p' z) (fun e p' z => n ≤ z.gens.size ∧ E e p' z) p s := by
  induction t with
  | unsupported _ => exact fun _ _ _ _ _ h => h
  | finish _ => exact fun _ _ _ _ _ h => h
  | register _ _ => exact fun _ _ _ _ _ h => h
  | yield _ _ _ _ => exact fun _ _ _ _ _ h => h
  | fork _ _ => exact fun _ _ _ _ _ h => h
  | await _ _ _ _ _ => exact fun _ _ _ _ _ h => h
  | pure a => exact fun _ _ _ _ hn h => ⟨hn, h⟩
  | raise e => exact fun _ _ _ _ hn h => ⟨hn, h⟩
  | rule _ k ih => exact fun Q E p s hn h => ih () Q E p s hn h
  | point _ k ih => exact fun Q E p s hn h => ih () Q E p s hn h
  | «at» p' k ih => exact fun Q E p s hn h => ih () Q E p' s hn h
  | load a _ k ih => exact fun Q E p s hn ⟨o, ho, h⟩ => ⟨o, ho, ih o Q E p s hn h⟩
  | genState g k ih => exact fun Q E p s hn ⟨st, hs, h⟩ => ⟨st, hs, ih _ Q E p s hn h⟩
  | update a _ f k ih => exact fun Q E p s hn h => ⟨h.1, ih () Q E p _ hn h.2⟩
  | choose src m k ih => exact fun Q E p s hn h => ⟨h.1, ih _ Q E p _ hn h.2⟩
  | loadIfAlive a k ih => exact fun Q E p s hn h => ih _ Q E p s hn h
  | alloc o k ih => exact fun Q E p s hn h => ih _ Q E p _ hn h
  | fresh k ih => exact fun Q E p s hn h => ih _ Q E p _ hn h
  | ask k ih => exact fun Q E p s hn h => ih _ Q E p s hn h
  | os q _ k ih => exact fun Q E p s hn h => ih _ Q E p _ hn h
  | handled own k ih => exact fun Q E p s hn h => ih _ Q E p s hn h
  | stack k ih => exact fun Q E p s hn h => ih _ Q E p s hn h
  | thread k ih => exact fun Q E p s hn h => ih _ Q E p s hn h
  | newGen c k ih => exact fun Q E p s hn h => ih _ Q E p _ (by rw [Array.size_push]; exact Nat.le_succ_of_le hn) h
  | call c hd _ _ k ih => exact fun Q E p s hn ⟨r, z, hr, h⟩ => ⟨r, z, hr, ih r Q E p z (Nat.le_trans hn (runs_gens hr)) h⟩
  | resume g r _ k ih => exact fun Q E p s hn ⟨res, z, hw, h⟩ => ⟨res, z, hw, ih res Q E p z (Nat.le_trans hn (wakes_gens hw)) h⟩
theorem with_gens {α : Type} {M : Model} {A : Around} {s : Shared} {t : Sem α} {Q : α → Shared → Prop} {E : Value → Shared → Prop} (h : wpAny M A t Q E s) :
    wpAny M A t (fun a z => s.gens.size ≤ z.gens.size ∧ Q a z) (fun e z => s.gens.size ≤ z.gens.size ∧ E e z) s :=
  fun Γ p hΓ => wp_gens M Γ _ t _ _ p s (Nat.le_refl _) (h Γ p hΓ)

/-! ### the loops of any and all -/
section
variable {prog : Program} {w : World} {A : Around} {R : Result → Shared → Prop} {a : Addr}
theorem any_turns (Z : Nat → Shared → Prop)
    (turn : ∀ n s, Z n s → wpAny (model prog w) A.in1 (pyNext (.ref a)) (fun r z => match r with
      | none => R (.ok (.ret (.bool false))) z
      | some v => ∃ b, v = .bool b ∧ if b = true then R (.ok (.ret (.bool true))) z else ∃ m, m < n ∧ Z m z) (fun _ _ => False) s) :
    ∀ n s, Z n s → codeAny (model prog w) A (.builtin "any.loop" ⟨[.ref a], []⟩) R s := by
  intro n
  induction n using Nat.strongRecOn with
  | _ n ih =>
    intro s hz
    refine codeAny_builtin F.entry_any_loop ?_
    rw [Around.under_plainId F.plain_any_loop _]
    show wpAny _ A.in1 (pyNext (.ref a) >>= _) _ _ s
    refine wpAny_bind (wpAny_mono (turn n s hz) (fun r z h => ?_) fun _ _ h => h.elim)
    cases r with
    | none => exact wpAny_bind (wpAny_rule (wpAny_pure h))
    | some v =>
      obtain ⟨b, rfl, h⟩ := h
      refine wpAny_bind (wpAny_holding (wpAny_truthy_bool (wpAny_bind (wpAny_letGo ?_))))
      cases b with
      | false =>
        obtain ⟨m, hm, hz'⟩ := h
        exact wpAny_pure ⟨plainId_quiet F.plain_any_loop _, ih m hm z hz'⟩
      | true => exact wpAny_bind (wpAny_rule (wpAny_pure h))
theorem all_turns (Z : Nat → Shared → Prop)
    (turn : ∀ n s, Z n s → wpAny (model prog w) A.in1 (pyNext (.ref a)) (fun r z => match r with
      | none => R (.ok (.ret (.bool true))) z
      | some v => ∃ b, v = .bool b ∧ if b = true then ∃ m, m < n ∧ Z m z else R (.ok (.ret (.bool false))) z) (fun _ _ => False) s) :
    ∀ n s, Z n s → codeAny (model prog w) A (.builtin "all.loop" ⟨[.ref a], []⟩) R s := by
  intro n
  induction n using Nat.strongRecOn with
  | _ n ih =>
    intro s hz
    refine codeAny_builtin F.entry_all_loop ?_
    rw [Around.under_plainId F.plain_all_loop _]
    show wpAny _ A.in1 (pyNext (.ref a) >>= _) _ _ s
    refine wpAny_bind (wpAny_mono (turn n s hz) (fun r z h => ?_) fun _ _ h => h.elim)
    cases r with
    | none => exact wpAny_bind (wpAny_rule (wpAny_pure h))
    | some v =>
      obtain ⟨b, rfl, h⟩ := h
      refine wpAny_bind (wpAny_holding (wpAny_truthy_bool (wpAny_bind (wpAny_letGo ?_))))
      cases b with
      | true =>
        obtain ⟨m, hm, hz'⟩ := h
        exact wpAny_pure ⟨plainId_quiet F.plain_all_loop _, ih m hm z hz'⟩
      | false => exact wpAny_bind (wpAny_rule (wpAny_pure h))
end

/-! ### the generator's frame -/
structure GenOk (N : List Str) (sc scope : Scope) (x : Str) : Prop where
  kind : scope.kind = .function
  co : scope.isCoroutine = false
  uniq : ∀ y ∈ scope.names, scope.names.lookup y.1 = some y.2
  cell : ∀ y ∈ scope.names, y.2 ≠ .cell
  dot : scope.names.lookup (".0" : Str) = some NameKind.local
  loc : scope.names.lookup x = some .local
  free : ∀ y ∈ scope.names, y.2 = .free → sc.names.lookup y.1 = some .cell ∨ sc.names.lookup y.1 = some .free
  own : ∀ y ∈ scope.names, y.2 = .local → y.1 ∉ N
def genC (N : List Str) (sc scope : Scope) (x : Str) : Bool :=
  (match scope.kind with | .function => true | _ => false) && !scope.isCoroutine && scope.names.all (fun y => decide (scope.names.lookup y.1 = some y.2)) && scope.names.all (fun y => !decide (y.2 = .cell)) &&
    decide (scope.names.lookup (".0" : Str) = some NameKind.local) && decide (scope.names.lookup x = some NameKind.local) &&
    scope.names.all (fun y => !decide (y.2 = .free) || decide (sc.names.lookup y.1 = some .cell) || decide (sc.names.lookup y.1 = some .free)) && scope.names.all (fun y => !decide (y.2 = .local) || !decide (y.1 ∈ N))
theorem genOk_by {N : List Str} {sc scope : Scope} {x : Str} (h : genC N sc scope x = true) : GenOk N sc scope x := by
  unfold genC at h
  simp only [Bool.and_eq_true, List.all_eq_true, decide_eq_true_eq, Bool.or_eq_true, Bool.not_eq_true', decide_eq_false_iff_not] at h
  obtain ⟨⟨⟨⟨⟨⟨⟨h1, h2⟩, h3⟩, h4⟩, h5⟩, h6⟩, h7⟩, h8⟩ := h
  refine ⟨?_, h2, h3, h4, h5, h6, fun y hy e => ?_, fun y hy e => ?_⟩
  · cases e : scope.kind <;> rw [e] at h1 <;> first | rfl | cases h1
  · rcases h7 y hy with (z | z) | z
    · exact absurd e z
    · exact .inl z
    · exact .inr z
  · rcases h8 y hy with z | z
    · exact absurd e z
    · exact z

abbrev genX (X : Cx) (x : Str) (z : Shared) (H : Hp) (cenv : Env) (fp : List Addr) (A' : Around) : Cx :=
  { X with s_0 := z, H_0 := H, env := cenv, A := A', N := x :: X.N, outer := X.stack, stack := cenv :: X.stack, ex := fp, fn := fun _ => false, calm := true, pn := [], xe := fun _ _ => False }
abbrev gEnv (X : Cx) (scope : Scope) (code : Value) (C : Addr) : Env := genEnv scope (cloFrom X.env.cells scope.names []) C code builtinsNs X.env

section
variable {X : Cx} {pins : List (Addr × Obj)} {σ : L2.St} {H : Hp} {z : Shared}
theorem gen_start {scope : Scope} {x : Str} {fp : List Addr} {code : Value} {A' : Around} {m : Str → Option Value} {h5 : Heap} {g' : Array GenState} {t' : Nat} (I : Inv X pins σ H z) (ok : GenOk X.N X.env.scope scope x) (hfp : ∀ b ∈ fp, FpOk X pins H b ∧ b < z.heap.objs.size)
    (hA : A'.handled = none) (hF : A'.frames = some (gEnv X scope code z.heap.objs.size :: X.stack)) (kp : ∀ b o, z.heap.get? b = some o → h5.get? b = some o) (hn : h5.Ns z.heap.objs.size m) (hg : PyProof.Rows.AllBare g') :
    Inv (genX X x z H (gEnv X scope code z.heap.objs.size) fp A') [] (none :: σ) H { z with heap := h5, gens := g', toks := t' } := by
  have cm : ∀ {y c}, (cloFrom X.env.cells scope.names []).lookup y = some c → X.env.cells.lookup y = some c ∧ c < z.heap.objs.size := fun {y c} e => by
    rcases cloFrom_mem (PySem.mem_of_lookup e) with hm | ⟨h1, rfl⟩
    · cases hm
    · obtain ⟨c, hc⟩ := (ok.free _ h1 rfl).elim (fun k => I.ok.has _ (.inl k)) fun k => I.ok.has _ (.inr k)
      rw [hc]
      obtain ⟨w, q⟩ := I.cell _ _ hc
      exact ⟨rfl, q.lt⟩
  have look : ∀ {y}, scope.names.lookup y = some .free → ∃ c, (cloFrom X.env.cells scope.names []).lookup y = some c ∧ X.env.cells.lookup y = some c := fun {y} hl => by
    obtain ⟨c', e'⟩ := mem_lookup (cloFrom_has (cells := X.env.cells) (acc := []) (PySem.mem_of_lookup hl))
    exact ⟨c', e', (cm e').1⟩
  have nocell : ∀ {y}, scope.names.lookup y ≠ some .cell := fun {y} e => ok.cell _ (PySem.mem_of_lookup e) rfl
  have okB : (genX X x z H (gEnv X scope code z.heap.objs.size) fp A').Ok := by
    refine ⟨I.ok.mod, ok.kind, I.ok.glob, rfl, Nat.le_refl _, fun y u c e1 e2 => I.ok.inj y u c (cm e1).1 (cm e2).1, fun y hy => ?_, fun y c q => (by cases q), fun _ => hA, hF, .inr ⟨rfl, rfl⟩, fun b hb => ⟨Nat.ne_of_lt (hfp b hb).2, fun y c e q => (hfp b hb).1.2.2.2.2.1 y c (cm e).1 q⟩,
      I.bs, Nat.le_trans I.ok.bsz I.sz, fun b o e hb => ?_, fun b hb q => ?_, I.stack, I.stkFree⟩
    · rcases hy with k | k
      · exact absurd k nocell
      · obtain ⟨c, e, _⟩ := look k
        exact ⟨c, e⟩
    · rcases (hfp b hb).1.2.2.2.1 with q | q
      · exact I.ok.noex b o e q
      · exact absurd (Nat.lt_of_lt_of_le (Heap.lt_size e) (Nat.le_trans I.ok.bsz q)) (Nat.lt_irrefl _)
    · rcases List.mem_cons.mp (I.stkSub b q) with q | q
      · exact (hfp b hb).1.2.1 q
      · exact (hfp b hb).1.2.2.1 q
  refine ⟨okB, rfl, hg, Un.kept kp, ⟨m, hn, fun i y av e1 e2 e3 => ?_⟩, fun y c e => ?_, I.hok.fresh (Nat.le_refl _), fun y c e => I.freeC y c (cm e).1, fun p hp => absurd (show p ∈ ([] : List (Addr × Obj)) ++ [] from hp) (by simp), I.hok.kept kp, ?_⟩
  · cases i with
    | zero => cases e2
    | succ i =>
      have e1 : X.N[i]? = some y := e1
      have e2 : σ[i]? = some (some av) := e2
      have nloc : scope.names.lookup y ≠ some .local := fun q => ok.own _ (PySem.mem_of_lookup q) rfl (List.mem_of_getElem? e1)
      have hfr : scope.names.lookup y = some .free := by
        rcases e3 with k | k | k
        · exact absurd k nloc
        · exact absurd k nocell
        · exact k
      obtain ⟨mm, hnn, hl⟩ := I.loc
      have hvis : Vis X.env.scope y := (ok.free _ (PySem.mem_of_lookup hfr) rfl).elim (fun k => .inr (.inl k)) (fun k => .inr (.inr k))
      obtain ⟨u, r, q⟩ := hl i y av e1 e2 hvis
      refine ⟨u, r, .inr ⟨.inr hfr, ?_⟩⟩
      obtain ⟨c, h1, h2⟩ := look hfr
      rcases q with ⟨k, _⟩ | ⟨_, c', e', q⟩
      · have k : X.env.scope.names.lookup y = some .local := k
        rcases ok.free _ (PySem.mem_of_lookup hfr) rfl with k' | k' <;> rw [show X.env.scope.names.lookup y = _ from k'] at k <;> cases k
      · rw [h2] at e'
        cases e'
        exact ⟨c, h1, q.keeps kp⟩
  · obtain ⟨w, q⟩ := I.cell y c (cm e).1
    exact ⟨w, q.keeps kp⟩
  · show σ.length + 1 = X.N.length + 1
    rw [I.len]
end

section
variable {X : Cx} {pins : List (Addr × Obj)} {σ : L2.St} {H : Hp} {z : Shared}
/-- back in the caller's context -/
theorem gen_out {x : Str} {cenv : Env} {fp : List Addr} {A' : Around} {pl : List (Addr × Obj)} {σ' : L2.St} {H' : Hp} {s : Shared} {g' : Array GenState} {t' : Nat} {h' : Heap} (I : Inv X pins σ H z) (hfp : ∀ b ∈ fp, FpOk X pins H b)
    (J : Inv (genX X x z H cenv fp A') pl σ' H' s) (hg : PyProof.Rows.AllBare g') (hk : ∀ b o, s.heap.get? b = some o → h'.get? b = some o) : Inv X pins σ H' { s with heap := h', gens := g', toks := t' } := by
  have K : Inv X pins σ H' s := I.call' (ch := fp) J.os J.base J.hok J.bare fun b hb => ⟨(hfp b hb).2.2.2.1, (hfp b hb).2.1, (hfp b hb).2.2.2.2.1, (hfp b hb).2.2.2.2.2⟩
  have K2 : Inv X pins σ H' { s with heap := h', toks := t' } := K.kept hk
  exact ⟨K2.ok, K2.os, hg, K2.base, K2.loc, K2.cell, K2.free, K2.freeC, K2.pin, K2.hok, K2.len⟩
/-- only the heap matters -/
theorem inv_same {Y : Cx} {pl : List (Addr × Obj)} {σ' : L2.St} {H' : Hp} {s s2 : Shared} (J : Inv Y pl σ' H' s) (h : s2.heap = s.heap) (ho : s2.os = s.os) (hg : PyProof.Rows.AllBare s2.gens) : Inv Y pl σ' H' s2 := by
  obtain ⟨h2, g2, d2, t2, o2⟩ := s2
  subst h ho
  exact ⟨J.ok, J.os, hg, J.base, J.loc, J.cell, J.free, J.freeC, J.pin, J.hok, J.len⟩

/-- what is wanted of the generator's end, of each item -/
def GEnd (Yx : Cx) (pa : Addr × Obj) (Qe : Hp → Prop) : GenEnd := fun _ _ r s => r = .ok .next ∧ ∃ σ' H', Inv Yx [pa] σ' H' s ∧ Qe H'
def GYld (Yx : Cx) (pa : Addr × Obj) (g : Nat) (sb : Bool) (Qs : Hp → Prop) : Protocol := fun _ _ v s kap => ∃ b σ' H', v = .bool b ∧ g < s.gens.size ∧ Inv Yx [pa] σ' H' s ∧
  if b = sb then Qs H' else ∀ s2 : Shared, s2.heap = s.heap → s2.os = s.os → g < s2.gens.size → PyProof.Rows.AllBare s2.gens → kap (.send .none) s2

/-- weaker, with the generators' number -/
theorem thnG {α : Type} {t : Sem α} {Q Q' : α → Shared → Prop} {M : Model} {A : Around} {E : Value → Shared → Prop} {s : Shared} (h : wpAny M A t Q (fun _ _ => False) s) (hQ : ∀ a z, s.gens.size ≤ z.gens.size → Q a z → Q' a z) : wpAny M A t Q' E s :=
  wpAny_mono (with_gens h) (fun a z q => hQ a z q.1 q.2) fun _ _ q => q.2.elim

abbrev gCode (elt tg iter : Expr) (scope : Scope) (pos : Pos) (it : Addr) (cenv : Env) : Code := .compLoop (.GeneratorExp elt [⟨tg, iter, [], 0⟩] scope pos) 0 (.ref it) .none cenv
theorem gen_seg {elt tg iter : Expr} {scope : Scope} {pos : Pos} {it : Addr} {cenv : Env} {x : Str} {fp : List Addr} {tn : Nat → Heap → Prop} {J : It} {gt : TG} {te : TE} {A2 A' : Around} {pa : Addr × Obj} {g : Nat} {sb : Bool} {Qe Qs : Hp → Prop} {W : Nat → Nat → Hp → Prop}
    (hco : cenv.scope.isCoroutine = false) (T : Turn X.prog X.w X.K tg J fp it tn) (hA' : A2.over (gCode elt tg iter scope pos it cenv) [] = A') (pg : PG (genX X x z H cenv fp A') tg gt) (pe : PE (genX X x z H cenv fp A') elt te) (hpa : ∀ b ∈ fp, pa.1 ≠ b)
    (turn : ∀ i m H1, W i m H1 → (J.stop i H1 ∧ Qe H1) ∨ (J.go i H1 ∧ ∀ y H2, J.yld i H1 y H2 → ∀ o, gt y (o :: σ) H2 fun σ2 H3 => (∃ o', σ2 = o' :: σ) ∧ te σ2 H3 fun v H4 => ∃ b, v = .bl b ∧ if b = sb then Qs H4 else ∃ m', m' < m ∧ W (i + 1) m' H4)) :
    ∀ (m n i : Nat) (s₀ s : Shared) (o : Option V) (H1 : Hp), m < n → W i m H1 → Inv (genX X x z H cenv fp A') [pa] (o :: σ) H1 s → tn i s.heap → (∀ b ∈ fp, H1 b = none) → g < s.gens.size →
      Seg (model X.prog X.w) A2 (GEnd (genX X x z H cenv fp A') pa Qe) (GYld (genX X x z H cenv fp A') pa g sb Qs) n s₀ (gCode elt tg iter scope pos it cenv) ((model X.prog X.w).den (gCode elt tg iter scope pos it cenv)) [] s := by
  have stat : ∀ {pl : List (Addr × Obj)} {σ' : L2.St} {H' : Hp} {s' : Shared}, (∀ p ∈ pl, p = pa) → Inv (genX X x z H cenv fp A') pl σ' H' s' → (∀ b ∈ fp, H' b = none) → ∀ b ∈ fp, FpOk (genX X x z H cenv fp A') pl H' b := fun {pl σ' H' s'} hpl I' hn b hb =>
    ⟨hn b hb, (I'.ok.exf b hb).1, I'.ok.exfs b hb, .inl hb, fun y c e => (I'.ok.exf b hb).2 y c e, fun p hp => by
      have e : p = pa := hpl p (by simpa using hp)
      rw [e]
      exact hpa b hb⟩
  have one : ∀ p ∈ [pa], p = pa := fun p hp => by simpa using hp
  intro m
  induction m using Nat.strongRecOn with
  | _ m ih =>
    intro n i s₀ s o H1 hmn w I st nf hgs
    show Seg _ A2 _ _ _ s₀ _ ((compTurn (.GeneratorExp elt [⟨tg, iter, [], 0⟩] scope pos) 0 (.ref it) .none cenv).onRaise (leaving cenv)) [] s
    rw [compTurn_gen, Sem.onRaise_eq_wrap]
    refine seg_bind_wrap (wpAny_standAt ?_)
    rcases turn i m H1 w with ⟨stop, qe⟩ | ⟨go, step⟩
    · refine seg_bind_wrap ?_
      rw [hA']
      refine thnF (T.done (genX X x z H cenv fp A') rfl rfl rfl rfl i [pa] s _ H1 (fun _ _ => False) I (stat one I nf) st stop) fun r s1 ⟨hr, I1⟩ => ?_
      subst hr
      exact seg_end (.ok .next) ⟨rfl, _, H1, I1, qe⟩
    · refine seg_bind_wrap ?_
      rw [hA']
      refine thnG (T.item (genX X x z H cenv fp A') rfl rfl rfl rfl i [pa] s _ H1 (fun _ _ => False) I (stat one I nf) st go) fun r s1 g1 ⟨u, hr, h1⟩ => ?_
      subst hr
      refine seg_bind_wrap ?_
      rw [hA']
      refine thnG h1 fun _ s2 g2 ⟨y, H2, I2, r2, y2, st2, n2⟩ => ?_
      have I2' := I2.pinned (stat one I2 n2) (T.obj _ _ st2)
      refine seg_bind_wrap ?_
      rw [hA']
      refine thnG (pg.run _ s2 _ H2 y u _ I2' r2 (step y H2 y2 o)) fun _ s3 g3 ⟨σ3, H3, I3, ⟨o', e3⟩, q3⟩ => ?_
      subst e3
      simp only [List.forIn_nil]
      refine seg_bind_wrap (wpAny_pure ?_)
      simp only [if_true]
      have hy : ∀ v, yieldOut cenv v = yieldValue v := fun v => by simp only [yieldOut, hco, Bool.false_eq_true, if_false]
      simp only [hy]
      rw [Sem.bind_eq_wrap', Sem.bind_eq_wrap', Sem.wrap_wrap, Sem.wrap_wrap]
      refine seg_wrap ?_
      rw [hA']
      refine thnG (pe.run _ s3 _ H3 _ I3 q3) fun v s4 g4 ⟨yv, H4, I4, r4, b, e4, q4⟩ => ?_
      subst e4
      cases r4
      have gs4 : g < s4.gens.size := by omega
      obtain ⟨n', rfl⟩ : ∃ n', n = n' + 1 := ⟨n - 1, by omega⟩
      have pin4 : ∀ c ∈ fp, ∀ oc, s2.heap.get? c = some oc → s4.heap.get? c = some oc ∧ H4 c = none := fun c hcf oc e =>
        let q := I4.pin (c, oc) (List.mem_append_right _ (List.mem_append_right _ (mem_pinsAt hcf e)))
        ⟨q.1, q.2.1⟩
      have J4 : Inv (genX X x z H cenv fp A') [pa] (o' :: σ) H4 s4 := I4.unpinned (pins := [pa])
      refine seg_at (seg_yield rfl rfl rfl ⟨b, _, H4, rfl, gs4, J4, ?_⟩)
      by_cases hb : b = sb
      · rw [if_pos hb] at q4 ⊢
        exact q4
      · rw [if_neg hb] at q4 ⊢
        obtain ⟨m', hm', w'⟩ := q4
        intro s5 e5 o5 g5 b5
        refine seg_again rfl (ih m' hm' n' (i + 1) s5 s5 o' H4 (by omega) w' (inv_same J4 e5 o5 b5) ?_ (fun c hcf => ?_) g5)
        · rw [e5]
          exact T.keep _ _ _ st2 fun c hcf oc e => (pin4 c hcf oc e).1
        · obtain ⟨oc, e, _⟩ := T.obj _ _ st2 c hcf
          exact (pin4 c hcf oc e).2
end

section
variable {X : Cx}
/-- any(elt for tg in iter) (sb: true), all(..) (sb: false): W by the turn and a measure -/
def tGen (sb : Bool) (P : Addr) (wi : TI) (gt : TG) (te : TE) : TE := fun σ H Q => wi σ H fun J H1 => GxR.TabG H1 P ∧ ∀ H2, GxR.Tabbed P H1 H2 → ∃ W : Nat → Nat → Hp → Prop, (∃ m, W 0 m H2) ∧ ∀ i m H3, W i m H3 →
  (J.stop i H3 ∧ Q (.bl (!sb)) H3) ∨ (J.go i H3 ∧ ∀ y H4, J.yld i H3 y H4 → ∀ o, gt y (o :: σ) H4 fun σ2 H5 => (∃ o', σ2 = o' :: σ) ∧ te σ2 H5 fun v H6 => ∃ b, v = .bl b ∧ if b = sb then Q (.bl sb) H6 else ∃ m', m' < m ∧ W (i + 1) m' H6)
/-- the state in which the generator at a, number g, waits -/
def Waits (M : Model) (A2 : Around) (R : GenEnd) (Y : Protocol) (a : Addr) (g : Nat) (n : Nat) (s : Shared) : Prop :=
  s.heap.IsGen a g ∧ s.heap.NoLimit ∧ ∃ gs, s.gens[g]? = some gs ∧ gs.Goes M A2 R Y n (.send .none) (s.setGen g .running)
theorem bare_set {gens : Array GenState} {g : Nat} {y : GenState} (h : PyProof.Rows.AllBare gens) (hy : y.bare = true) : PyProof.Rows.AllBare (gens.setIfInBounds g y) := fun u hu => by
  obtain ⟨i, hi, rfl⟩ := Array.mem_iff_getElem.mp hu
  have hi' : i < gens.size := by simpa using hi
  rw [Array.getElem_setIfInBounds hi']
  split
  · exact hy
  · exact h _ (Array.getElem_mem hi')
theorem set_at {gens : Array GenState} {g : Nat} {y : GenState} (h : g < gens.size) : (gens.setIfInBounds g y)[g]? = some y := by simp [h]

theorem waits_next {pins : List (Addr × Obj)} {σ : L2.St} {H : Hp} {z : Shared} {x : Str} {cenv : Env} {fp : List Addr} {A0 A' : Around} {a : Addr} {oa : Obj} {g : Nat} {sb : Bool} {Qe Qs : Hp → Prop} {Qf : Option Value → Shared → Prop} {E : Value → Shared → Prop} {n : Nat} {s : Shared}
    (hh : A0.handled = none) (hd : A0.depth < recursionLimit) (I : Inv X pins σ H z) (hfp : ∀ b ∈ fp, FpOk X pins H b) (ha : ∃ nm qn, oa.cls = .type "generator" ∧ oa.data = .fields #[.int g 0, nm, qn] ∧ oa.slots = #[])
    (hz : Waits (model X.prog X.w) A0.in1 (GEnd (genX X x z H cenv fp A') (a, oa) Qe) (GYld (genX X x z H cenv fp A') (a, oa) g sb Qs) a g n s)
    (hE : ∀ s1 H1, Inv X pins σ H1 s1 → Qe H1 → Qf none s1)
    (hS : ∀ b s1 H1, b = sb → Inv X pins σ H1 s1 → Qs H1 → Qf (some (.bool b)) s1)
    (hN : ∀ b s1 m, b ≠ sb → m < n → Waits (model X.prog X.w) A0.in1 (GEnd (genX X x z H cenv fp A') (a, oa) Qe) (GYld (genX X x z H cenv fp A') (a, oa) g sb Qs) a g m s1 → Qf (some (.bool b)) s1) :
    wpAny (model X.prog X.w) A0 (pyNext (.ref a)) Qf E s := by
  obtain ⟨hg, hl, gs, hgs, go⟩ := hz
  refine wpAny_pyNext_genexpQ (P := fun _ _ s1 => ∃ σ' H', Inv (genX X x z H cenv fp A') [(a, oa)] σ' H' s1 ∧ Qe H') hh hl hd hg hgs go (fun v s1 gs' hb hy => ?_) (fun s1 hp h' hk => ?_)
  · obtain ⟨b, σ', H', rfl, hlt, J, q⟩ := hy
    have out : Inv X pins σ H' (s1.setGen g gs') := gen_out (h' := s1.heap) (t' := s1.toks) I hfp J (bare_set J.bare hb) fun _ _ e => e
    by_cases hbs : b = sb
    · rw [if_pos hbs] at q
      exact hS b _ H' hbs out q
    · rw [if_neg hbs] at q
      cases n with
      | zero => exact (q s1 rfl rfl hlt J.bare).elim
      | succ m =>
        refine hN b _ m hbs (Nat.lt_succ_self m) ⟨?_, out.nolimit, gs', set_at hlt, q _ rfl rfl ?_ (bare_set (bare_set J.bare hb) rfl)⟩
        · obtain ⟨nm, qn, h1, h2, h3⟩ := ha
          exact ⟨oa, nm, qn, (J.pin (a, oa) (by simp)).1, h1, h2, h3⟩
        · simp only [Shared.setGen, Array.size_setIfInBounds]
          exact hlt
  · obtain ⟨σ', H', J, q⟩ := hp
    have out : Inv X pins σ H' { s1 with heap := h', gens := s1.gens.setIfInBounds g .finished, toks := s1.toks } := gen_out I hfp J (bare_set J.bare rfl) hk
    exact hE _ H' out q

theorem gen_first {elt tg iter : Expr} {scope : Scope} {pos : Pos} {it : Addr} {cenv : Env} {A2 : Around} {R : GenEnd} {Y : Protocol} {n : Nat} {s : Shared} {tn : Nat → Heap → Prop} {P : Program} {w : World} {K : PySem.W.Frag} {J : It} {fp : List Addr}
    (T : Turn P w K tg J fp it tn) (st : tn 0 s.heap) (loop : ∀ s₀, Seg (model P w) A2 R Y n s₀ (gCode elt tg iter scope pos it cenv) ((model P w).den (gCode elt tg iter scope pos it cenv)) [] s) :
    (GenState.fresh (.compStart (.GeneratorExp elt [⟨tg, iter, [], 0⟩] scope pos) 0 (.ref it) .none cenv)).Goes (model P w) A2 R Y n (.send .none) s := by
  refine ⟨rfl, ?_⟩
  show Seg _ A2 _ _ _ s _ ((compStart (.GeneratorExp elt [⟨tg, iter, [], 0⟩] scope pos) 0 (.ref it) .none cenv).onRaise (leaving cenv)) [] s
  unfold compStart
  rw [Sem.onRaise_eq_wrap]
  show Seg _ A2 _ _ _ s _ ((ask >>= _).wrap _ _ _ _) [] s
  refine seg_bind_wrap (wpAny_askSetting ?_)
  have again := seg_again (M := model P w) (A := A2) (R := R) (Y := Y) (n := n) (s₀ := s) (c := .compStart (.GeneratorExp elt [⟨tg, iter, [], 0⟩] scope pos) 0 (.ref it) .none cenv) (fs := []) (s := s) (c' := gCode elt tg iter scope pos it cenv) rfl (loop s)
  split
  · exact again
  · refine seg_bind_wrap (wpAny_rule ?_)
    show Seg _ A2 _ _ _ s _ ((standAt iter.pos >>= _).wrap _ _ _ _) [] s
    exact seg_bind_wrap (wpAny_standAt (seg_bind_wrap (T.self _ 0 s _ _ st again)))

theorem over_fr {A2 : Around} {elt tg iter : Expr} {scope : Scope} {pos : Pos} {it : Addr} {cenv : Env} {l : List Env} (h : A2.frames = some l) : (A2.over (gCode elt tg iter scope pos it cenv) []).frames = some (cenv :: l) := by
  show (A2.frames).map ([cenv] ++ ·) = _
  rw [h]
  rfl
theorem over_room {A2 : Around} {elt tg iter : Expr} {scope : Scope} {pos : Pos} {it : Addr} {cenv : Env} {k : Nat} (h : A2.handled = none) (hd : A2.depth + 1 + 3 * k + 5 < recursionLimit) (hu : A2.units + 3 + 16 * k + 200 < cLine) : Room k (A2.over (gCode elt tg iter scope pos it cenv) []) :=
  ⟨h, hd, hu⟩
/-- the generator is made -/
theorem gen_made {c P : Addr} {elt tg iter : Expr} {x : Str} {gpos : Pos} {scope : Scope} {wi : TI} {gt : TG} {te : TE} {k : Nat} {sb : Bool} {pins : List (Addr × Obj)} {σ : L2.St} {H : Hp} {s : Shared} {Q : VK} {Q' : Value → Shared → Prop}
    (hr : Room (k + 1) X.A) (TB : GxR.TabB X.base X.mg c P) (hcode : X.env.code = .ref c) (ok : GenOk X.N X.env.scope scope x) (hi : PI X tg iter wi)
    (hg : ∀ (z : Shared) (H : Hp) (code : Value) (C : Addr) (fp : List Addr) (A' : Around), PG (genX X x z H (gEnv X scope code C) fp A') tg gt)
    (he : ∀ (z : Shared) (H : Hp) (code : Value) (C : Addr) (fp : List Addr) (A' : Around), Room k A' → PE (genX X x z H (gEnv X scope code C) fp A') elt te)
    (hs : ∀ v, genFold iter X.env v = pure v) (I : Inv X pins σ H s) (h : tGen sb P wi gt te σ H Q)
    (hQ : ∀ (a : Addr) (g n : Nat) (s6 z : Shared) (H4 : Hp) (cenv : Env) (fp : List Addr) (A' : Around) (oa : Obj), Inv X pins σ H4 z → (∀ b ∈ fp, FpOk X pins H4 b) → (∃ nm qn, oa.cls = .type "generator" ∧ oa.data = .fields #[.int g 0, nm, qn] ∧ oa.slots = #[]) →
      Waits (model X.prog X.w) X.A.in1.in1 (GEnd (genX X x z H4 cenv fp A') (a, oa) (fun H' => Q (.bl (!sb)) H')) (GYld (genX X x z H4 cenv fp A') (a, oa) g sb (fun H' => Q (.bl sb) H')) a g n s6 → Q' (.ref a) s6) :
    wpAny (model X.prog X.w) X.A (eval (.GeneratorExp elt [⟨tg, iter, [], 0⟩] scope gpos) X.env) Q' X.xe s := by
  have hfree : ∀ y ∈ scope.names, y.2 = .free → ∃ c, X.env.cells.lookup y.1 = some c := fun y hy e => (ok.free y hy e).elim (fun k => I.ok.has _ (.inl k)) fun k => I.ok.has _ (.inr k)
  refine wpAny_GeneratorExp_make ok.co (closure_ok hfree) ok.cell ok.dot ok.kind (by have := hr.dp; omega) ?_ hs
  refine thn (hi.run pins s σ H _ I h) fun xv s1 h1 => thn h1 fun itv s2 h2 => ?_
  obtain ⟨it, fp, tn, J, H2, rfl, I2, T, st2, f2, ⟨ps, hP, ht⟩, q⟩ := h2
  refine ⟨I2.nolimit, ?_⟩
  have hPs : s2.heap.get? P = some { cls := .none, data := .fields ps } := I2.hok P _ hP
  have hcd : PySem.W.CodeHd s2.heap c P := TB.code.keeps I2.bk
  have nP : ∀ b ∈ fp, b ≠ P := fun b hb e => by
    have := (f2 b hb).1
    rw [e, hP] at this
    cases this
  have cont : ∀ (code : Value) (h3 : Heap) (tk : Nat) (more : Array Value), Heap.ExtBut P s2.heap h3 → h3.get? P = some { cls := .none, data := .fields (ps ++ more) } → TriplesOk (ps ++ more).toList →
      wpAny (model X.prog X.w) X.A (builtinsFor X.env.globals X.env.builtins) (fun bi s₄ =>
        ∀ h', h'.Ns s₄.heap.objs.size (fun y => if y = ".0" then some (.ref it) else none) → Heap.SameBut s₄.heap.objs.size (s₄.heap.push { cls := .type "frame", data := .dict #[] }) h' →
          Q' (.ref h'.objs.size) { s₄ with
            gens := s₄.gens.push (.fresh (.compStart (.GeneratorExp elt [⟨tg, iter, [], 0⟩] scope gpos) 0 (.ref it) .none (genEnv scope (cloFrom X.env.cells scope.names []) s₄.heap.objs.size code bi X.env))),
            toks := s₄.toks + 1 + 1 + 1,
            heap := h'.push { cls := .type "generator", data := .fields #[.int s₄.gens.size 0, .str "<genexpr>" (s₄.toks + 1), .str (X.env.qual ++ "<genexpr>") (s₄.toks + 1 + 1)] } }) X.xe { s2 with heap := h3, toks := tk } := by
    intro code h3 tk more hx hP3 ht3
    have I3 : Inv X pins σ (upd H2 P (.tbl (ps ++ more))) { s2 with heap := h3, toks := tk } := GxR.inv_tab (g' := s2.gens) (d' := s2.drawn) I2 hP (fun b o hb e => hx b o hb e) hP3 I2.bare
    have tabbed : GxR.Tabbed P H2 (upd H2 P (.tbl (ps ++ more))) := ⟨⟨_, upd_same, ht3⟩, fun b hb => upd_ne hb⟩
    obtain ⟨bm, ob, e1, e2, e3, e4, e5, e6, e7, e8⟩ := TB.bm
    refine wpAny_builtinsFor (m := X.mg) (by rw [I.ok.glob]; exact I.mod.glob.keeps I3.bk) e1 e2 (I3.bk _ _ e5) e6 e7 e8 ?_
    intro h' hn' hs'
    obtain ⟨z, hz⟩ : ∃ z, z = ({ s2 with heap := h3, toks := tk } : Shared) := ⟨_, rfl⟩
    rw [← hz] at I3
    have zh : z.heap = h3 := by rw [hz]
    have hn' : h'.Ns h3.objs.size (fun y => if y = ".0" then some (.ref it) else none) := hn'
    have hs' : Heap.SameBut h3.objs.size (h3.push { cls := .type "frame", data := .dict #[] }) h' := hs'
    have sz' : h'.objs.size = h3.objs.size + 1 := by rw [hs'.1, Heap.size_push]
    have kp' : ∀ b o, h3.get? b = some o → h'.get? b = some o := fun b o e => hs'.extBut b o (Nat.ne_of_lt (Heap.lt_size e)) (Heap.get?_push_of_some _ e)
    have st3 : tn 0 h3 := T.keep _ _ _ st2 fun b hb o e => hx b o (nP b hb) e
    have f3 : ∀ b ∈ fp, FpOk X pins (upd H2 P (.tbl (ps ++ more))) b ∧ b < z.heap.objs.size := fun b hb => by
      obtain ⟨o, e, _⟩ := T.obj _ _ st3 b hb
      refine ⟨⟨?_, (f2 b hb).2⟩, by rw [zh]; exact Heap.lt_size e⟩
      rw [upd_ne (nP b hb)]
      exact (f2 b hb).1
    obtain ⟨W, ⟨m0, w0⟩, turn⟩ := q _ tabbed
    generalize upd H2 P (.tbl (ps ++ more)) = H3 at I3 f3 w0 turn
    -- the generator's own object
    refine hQ h'.objs.size s2.gens.size (m0 + 1) _ z H3 (gEnv X scope code h3.objs.size) fp (X.A.in1.in1.over (gCode elt tg iter scope gpos it (gEnv X scope code h3.objs.size)) [])
      { cls := .type "generator", data := .fields #[.int s2.gens.size 0, .str "<genexpr>" (tk + 1), .str (X.env.qual ++ "<genexpr>") (tk + 1 + 1)] } I3 (fun b hb => (f3 b hb).1) ⟨_, _, rfl, rfl, rfl⟩ ?_
    refine ⟨⟨_, _, _, Heap.get?_push_size _ rfl, rfl, rfl, rfl⟩, ?_, _, Array.getElem?_push_size .., gen_first T (T.keep _ _ _ st3 fun b hb o e => Heap.get?_push_of_some _ (kp' b o e)) fun s₀ => ?_⟩
    · exact I3.nolimit.keeps fun b o e => Heap.get?_push_of_some _ (kp' b o (by rw [← zh]; exact e))
    have hLs : h3.objs.size = z.heap.objs.size := by rw [zh]
    have room : Room k (X.A.in1.in1.over (gCode elt tg iter scope gpos it (gEnv X scope code h3.objs.size)) []) := over_room hr.hd (by have := hr.dp; show X.A.depth + 1 + 3 * k + 5 < _; omega) (by have := hr.un; show X.A.units + 1 + 1 + 3 + 16 * k + 200 < _; omega)
    have I4 := gen_start (x := x) (scope := scope) (code := code) (fp := fp) (A' := X.A.in1.in1.over (gCode elt tg iter scope gpos it (gEnv X scope code z.heap.objs.size)) []) (g' := (s2.gens.push (.fresh (.compStart (.GeneratorExp elt [⟨tg, iter, [], 0⟩] scope gpos) 0 (.ref it) .none (gEnv X scope code h3.objs.size)))).setIfInBounds s2.gens.size .running)
      (t' := tk + 1 + 1 + 1) (h5 := h'.push { cls := .type "generator", data := .fields #[.int s2.gens.size 0, .str "<genexpr>" (tk + 1), .str (X.env.qual ++ "<genexpr>") (tk + 1 + 1)] })
      I3 ok f3 hr.hd (over_fr I.ok.frames) (fun b o e => Heap.get?_push_of_some _ (kp' b o (by rw [← zh]; exact e))) (by rw [← hLs]; exact hn'.push _) (bare_set (I2.bare.push rfl) rfl)
    rw [← hLs] at I4
    have nofr : h'.objs.size ∉ (genX X x z H3 (gEnv X scope code h3.objs.size) fp (X.A.in1.in1.over (gCode elt tg iter scope gpos it (gEnv X scope code h3.objs.size)) [])).fs := fun hb => by
      rcases List.mem_cons.mp (I3.stkSub _ hb) with e | hb
      · have := I3.lt
        rw [← e, zh, sz'] at this
        exact absurd (Nat.lt_trans (Nat.lt_succ_self _) this) (Nat.lt_irrefl _)
      · exact I3.nofs (by rw [zh, sz']; exact Nat.le_succ _) hb
    have I5 := I4.pins_of (pins' := [(h'.objs.size, { cls := .type "generator", data := .fields #[.int s2.gens.size 0, .str "<genexpr>" (tk + 1), .str (X.env.qual ++ "<genexpr>") (tk + 1 + 1)] })]) fun p hp => by
      have e : p = _ := List.mem_singleton.mp hp
      subst e
      refine ⟨Heap.get?_push_size _ rfl, I3.hok.fresh (by rw [zh, sz']; exact Nat.le_succ _), ?_, nofr, fun v q => by cases q⟩
      show h'.objs.size ≠ h3.objs.size
      rw [sz']
      exact Nat.succ_ne_self _
    refine gen_seg (X := X) (z := z) (H := H3) ok.co T rfl (hg _ _ _ _ _ _) (he _ _ _ _ _ _ room) (fun b hb => ?_) (fun i m H1 w => turn i m H1 w) m0 (m0 + 1) 0 s₀ _ none H3 (Nat.lt_succ_self _) w0 (inv_same I5 rfl (by rw [hz]; rfl) I5.bare) (T.keep _ _ _ st3 fun b hb o e => Heap.get?_push_of_some _ (kp' b o e)) (fun b hb => (f3 b hb).1.1) ?_
    · have := (f3 b hb).2
      rw [zh] at this
      show h'.objs.size ≠ b
      rw [sz']
      intro e
      rw [← e] at this
      exact absurd (Nat.lt_trans (Nat.lt_succ_self _) this) (Nat.lt_irrefl _)
    · show s2.gens.size < (Array.setIfInBounds _ _ _).size
      rw [Array.size_setIfInBounds, Array.size_push]
      exact Nat.lt_succ_self _
  cases hf : codeAmong gpos ps.toList with
  | none =>
    refine wpAny_genexprCodeX hcode (hcd.code hPs ht) (hcd.tab hPs) hf fun c' h' tk hx hge hlt hco' _ htab' _ => ?_
    obtain ⟨o1, vs, f1, tf, fl, tg', inF, tx, tt, op, _, _, _, _, _, _, _, _, _, htr, _⟩ := hco'
    exact cont _ h' tk _ hx htab'.2 htr
  | some cv =>
    refine wpAny_genexprCode_hit hcode (hcd.code hPs ht) hf ?_
    exact cont cv s2.heap s2.toks #[] (Heap.ExtBut.refl _ _) (by rw [Array.append_empty]; exact hPs) (by rw [Array.append_empty]; exact ht)

/-- any(elt for tg in iter) -/
theorem pe_any {c P : Addr} {elt tg iter : Expr} {x : Str} {p pos gpos : Pos} {scope : Scope} {wi : TI} {gt : TG} {te : TE} {k : Nat}
    (hr : Room (k + 1) X.A) (hgl : Gl X "any") (hm : X.mg "any" = none) (TB : GxR.TabB X.base X.mg c P) (hcode : X.env.code = .ref c) (ok : GenOk X.N X.env.scope scope x) (hi : PI X tg iter wi)
    (hg : ∀ (z : Shared) (H : Hp) (code : Value) (C : Addr) (fp : List Addr) (A' : Around), PG (genX X x z H (gEnv X scope code C) fp A') tg gt)
    (he : ∀ (z : Shared) (H : Hp) (code : Value) (C : Addr) (fp : List Addr) (A' : Around), Room k A' → PE (genX X x z H (gEnv X scope code C) fp A') elt te)
    (hs : ∀ v, genFold iter X.env v = pure v := by intro _; rfl)
    (hst : starEach [.GeneratorExp elt [⟨tg, iter, [], 0⟩] scope gpos] X.env = (false, eval (.GeneratorExp elt [⟨tg, iter, [], 0⟩] scope gpos) X.env) :: starEach [] X.env := by rfl) :
    PE X (.Call (.Name "any" p) [.GeneratorExp elt [⟨tg, iter, [], 0⟩] scope gpos] [] pos) (tGen true P wi gt te) := by
  refine ⟨fun pins s σ H Q I h => ?_⟩
  refine wpAny_Call_Name_kw (ld_blt I hgl hm PyProof.Rows.boot_any ?_)
  refine PyProof.Rows.callWith_builtin1 ?_ hst (by rfl)
  rw [hst]
  refine Calls.spliced_cons (gen_made hr TB hcode ok hi hg he hs I h fun a g n s6 z H4 cenv fp A' oa I4 hfp ha hz => Calls.spliced_nil ?_)
  refine call_function_tree F.kind_any F.plain_any F.entry_any (F.args_any1 _) ?_
  unfold Builtin.«any»
  refine wpAny_bind (m := oneArg "any" _) (wpAny_pure (wpAny_bind (wpAny_pyIter_gen hz.1 ?_)))
  refine wpAny_pure ⟨plainId_quiet F.plain_any_loop _, any_turns _ (fun n s hz => ?_) n s6 hz⟩
  refine waits_next (A0 := X.A.in1) hr.hd (by have := hr.dp; show X.A.depth < _; omega) I4 hfp ha hz (fun s1 H1 J q => ?_) (fun b s1 H1 hb J q => ?_) fun b s1 m hb hm hw => ?_
  · exact ⟨.bl false, H1, J, rfl, q⟩
  · subst hb
    exact ⟨true, rfl, ⟨.bl true, H1, J, rfl, q⟩⟩
  · refine ⟨b, rfl, ?_⟩
    cases b with
    | true => exact absurd rfl hb
    | false => exact ⟨m, hm, hw⟩
/-- all(elt for tg in iter) -/
theorem pe_all {c P : Addr} {elt tg iter : Expr} {x : Str} {p pos gpos : Pos} {scope : Scope} {wi : TI} {gt : TG} {te : TE} {k : Nat}
    (hr : Room (k + 1) X.A) (hgl : Gl X "all") (hm : X.mg "all" = none) (TB : GxR.TabB X.base X.mg c P) (hcode : X.env.code = .ref c) (ok : GenOk X.N X.env.scope scope x) (hi : PI X tg iter wi)
    (hg : ∀ (z : Shared) (H : Hp) (code : Value) (C : Addr) (fp : List Addr) (A' : Around), PG (genX X x z H (gEnv X scope code C) fp A') tg gt)
    (he : ∀ (z : Shared) (H : Hp) (code : Value) (C : Addr) (fp : List Addr) (A' : Around), Room k A' → PE (genX X x z H (gEnv X scope code C) fp A') elt te)
    (hs : ∀ v, genFold iter X.env v = pure v := by intro _; rfl)
    (hst : starEach [.GeneratorExp elt [⟨tg, iter, [], 0⟩] scope gpos] X.env = (false, eval (.GeneratorExp elt [⟨tg, iter, [], 0⟩] scope gpos) X.env) :: starEach [] X.env := by rfl) :
    PE X (.Call (.Name "all" p) [.GeneratorExp elt [⟨tg, iter, [], 0⟩] scope gpos] [] pos) (tGen false P wi gt te) := by
  refine ⟨fun pins s σ H Q I h => ?_⟩
  refine wpAny_Call_Name_kw (ld_blt I hgl hm PyProof.Rows.boot_all ?_)
  refine PyProof.Rows.callWith_builtin1 ?_ hst (by rfl)
  rw [hst]
  refine Calls.spliced_cons (gen_made hr TB hcode ok hi hg he hs I h fun a g n s6 z H4 cenv fp A' oa I4 hfp ha hz => Calls.spliced_nil ?_)
  refine call_function_tree F.kind_all F.plain_all F.entry_all (F.args_all1 _) ?_
  unfold Builtin.«all»
  refine wpAny_bind (m := oneArg "all" _) (wpAny_pure (wpAny_bind (wpAny_pyIter_gen hz.1 ?_)))
  refine wpAny_pure ⟨plainId_quiet F.plain_all_loop _, all_turns _ (fun n s hz => ?_) n s6 hz⟩
  refine waits_next (A0 := X.A.in1) hr.hd (by have := hr.dp; show X.A.depth < _; omega) I4 hfp ha hz (fun s1 H1 J q => ?_) (fun b s1 H1 hb J q => ?_) fun b s1 m hb hm hw => ?_
  · exact ⟨.bl true, H1, J, rfl, q⟩
  · subst hb
    exact ⟨false, rfl, ⟨.bl false, H1, J, rfl, q⟩⟩
  · refine ⟨b, rfl, ?_⟩
    cases b with
    | false => exact absurd rfl hb
    | true => exact ⟨m, hm, hw⟩
end
end GX

set_option Elab.async false
set_option linter.all false
set_option maxRecDepth 100000
set_option maxHeartbeats 2000000
/-! DL3: items, membership, calls, iteration, comprehensions, any and all. -/
namespace DL
open PySem PySem.Spec L2

section
variable {X : Cx} {Tb : List Addr} {δ : Dl} {a b c e o i : Expr} {es : List Expr} {pos pos' : Pos} {P P' : D → Prop}
theorem wpE_chain {op op' : CmpOp} {r r' : R2} {R R' : D → D → (D → Prop) → Prop} (ho : OpR X (compareOp op) r) (ho' : OpR X (compareOp op') r') (hr : Ok2 X Tb r R) (hr' : Ok2 X Tb r' R')
    (h : wpE X Tb a δ fun d1 => wpE X Tb b δ fun d2 => R d1 d2 fun d3 => ∃ k, d3 = .bool k ∧ if k = true then wpE X Tb c δ fun d4 => R' d2 d4 P else P (.bool false)) (hm : lastMarks [op, op'] [b, c] = false := by rfl) : wpE X Tb (.Compare a [op, op'] [b, c] pos) δ P := fun B O0 M Lk σ τ H I Q q =>
  sem_e (pe_chain ho ho' pe_sem pe_sem pe_sem hm) (h B O0 M Lk σ τ H I _ fun x d1 H1 I1 h1 => h1 B O0 M Lk σ _ H1 I1 _ fun y d2 H2 I2 h2 => by
    obtain ⟨O, J⟩ := I2
    have rx := J.tmp _ (List.mem_cons_of_mem _ List.mem_cons_self)
    have ry := J.tmp _ List.mem_cons_self
    refine hr J rx ry h2 _ fun v d H' J' h3 => ?_
    obtain ⟨k, rfl, h3⟩ := h3
    obtain ⟨O', J'⟩ := J'
    obtain ⟨J1, rk⟩ := J'.pop1
    cases rk
    refine ⟨k, rfl, ?_⟩
    cases k with
    | true =>
      refine h3 B O0 M Lk σ _ H' ⟨O', J1⟩ _ fun u d4 H4 J4 h4 => ?_
      · obtain ⟨O4, J4⟩ := J4
        have ru := J4.tmp _ List.mem_cons_self
        have rv := J4.tmp _ (List.mem_cons_of_mem _ List.mem_cons_self)
        exact hr' (J4.drops (τ' := τ) fun p hp => by simp [hp]) rv ru h4 Q q
    | false => exact q _ _ H' ⟨O', (J1.drops (τ' := τ) fun p hp => by simp [hp]).push (.bl _)⟩ h3)
theorem wpT_chain {op op' : CmpOp} {r r' : R2} {R R' : D → D → (D → Prop) → Prop} {P : Bool → Prop} (ho : OpR X (compareOp op) r) (ho' : OpR X (compareOp op') r') (hr : Ok2 X Tb r R) (hr' : Ok2 X Tb r' R')
    (h : wpE X Tb a δ fun d1 => wpE X Tb b δ fun d2 => R d1 d2 fun d3 => ∃ k, d3 = .bool k ∧ if k = true then wpE X Tb c δ fun d4 => R' d2 d4 fun d => ∃ k, d = .bool k ∧ P k else P false) (hm : lastMarks [op, op'] [b, c] = false := by rfl) : wpT X Tb (.Compare a [op, op'] [b, c] pos) δ P := fun B O0 M Lk σ τ H I Q q =>
  sem_t (pt_chain ho ho' pe_sem pe_sem pe_sem hm) (h B O0 M Lk σ τ H I _ fun x d1 H1 I1 h1 => h1 B O0 M Lk σ _ H1 I1 _ fun y d2 H2 I2 h2 => by
    obtain ⟨O, J⟩ := I2
    have rx := J.tmp _ (List.mem_cons_of_mem _ List.mem_cons_self)
    have ry := J.tmp _ List.mem_cons_self
    refine hr J rx ry h2 _ fun v d H' J' h3 => ?_
    obtain ⟨k, rfl, h3⟩ := h3
    obtain ⟨O', J'⟩ := J'
    obtain ⟨J1, rk⟩ := J'.pop1
    cases rk
    refine ⟨k, rfl, ?_⟩
    cases k with
    | true =>
      refine h3 B O0 M Lk σ _ H' ⟨O', J1⟩ _ fun u d4 H4 J4 h4 => ?_
      · obtain ⟨O4, J4⟩ := J4
        have ru := J4.tmp _ List.mem_cons_self
        have rv := J4.tmp _ (List.mem_cons_of_mem _ List.mem_cons_self)
        refine hr' (J4.drops (τ' := τ) fun p hp => by simp [hp]) rv ru h4 _ fun v d H' J' h3 => ?_
        obtain ⟨k, rfl, h3⟩ := h3
        obtain ⟨O', J'⟩ := J'
        obtain ⟨J1, rk⟩ := J'.pop1
        cases rk
        exact ⟨k, rfl, q k H' ⟨O', J1⟩ h3⟩
    | false => exact ⟨false, rfl, q false H' ⟨O', J1.drops (τ' := τ) fun p hp => by simp [hp]⟩ h3⟩)

/-! ### items -/
def ixR : D → D → (D → Prop) → Prop
  | .tuple ds, .int i, P => ∃ d, atI ds i = some d ∧ P d
  | .list ds, .int i, P => ∃ d, atI ds i = some d ∧ P d
  | .str z, .int i, P => ∃ c, z.length ≤ sizeLine ∧ atI z.cps.toList i = some c ∧ P (.str ⟨#[c]⟩)
  | _, _, _ => False
theorem RpA.at' {H : Hp} {vs : List V} {ds : List D} {i : Int} {d : D} (r : RpA H vs ds) (h : atI ds i = some d) : ∃ v, atI vs i = some v ∧ Rp H v d := by
  unfold atI at h ⊢
  rw [r.length]
  cases e : ixN ds.length i with
  | none => rw [e] at h; cases h
  | some j => rw [e] at h; exact r.get (i := j) h
theorem ok_ix : Ok2 X Tb (rIx X.K) ixR := by
  intro B O0 M Lk O δ σ τ H x y d1 d2 P I rx ry h Q q
  unfold ixR at h
  split at h
  · obtain ⟨p, xs, rfl, hp, rp⟩ := rx.tuple'
    rw [ry.int']
    obtain ⟨d, hd, h⟩ := h
    obtain ⟨v, hv, rv⟩ := rp.at' hd
    exact .inr (.inl ⟨p, xs, _, v, rfl, rfl, SqT.of (vis_some hp).2, hv, q _ _ H ⟨O, I.push rv⟩ h⟩)
  · obtain ⟨p, xs, rfl, hp, rp⟩ := rx.list'
    rw [ry.int']
    obtain ⟨d, hd, h⟩ := h
    obtain ⟨v, hv, rv⟩ := rp.at' hd
    exact .inl ⟨p, xs, _, v, rfl, rfl, SqL.of (vis_some hp).2, hv, q _ _ H ⟨O, I.push rv⟩ h⟩
  · rw [rx.str', ry.int']
    obtain ⟨c, h1, h2, h⟩ := h
    exact .inr (.inr ⟨_, _, c, rfl, rfl, h1, h2, q _ _ H ⟨O, I.push (.str _)⟩ h⟩)
  · exact h.elim
theorem wpE_ix (h : wpE X Tb a δ fun d1 => wpE X Tb b δ fun d2 => ixR d1 d2 P) (hs : PlainIx b := by intro _ _; rfl) : wpE X Tb (.Subscript a b pos) δ P := fun B O0 M Lk σ τ H I Q q =>
  sem_e (pe_ix ix_seq pe_sem pe_sem hs) (h B O0 M Lk σ τ H I _ fun x d1 H1 I1 h1 => h1 B O0 M Lk σ _ H1 I1 _ fun y d2 H2 I2 h2 => by
    obtain ⟨O, J⟩ := I2
    obtain ⟨J0, rx, ry⟩ := J.pop2
    exact ok_ix J0 rx ry h2 Q q)
/-- the value under a key -/
def dlook (k : D) : List (D × D) → Option D
  | [] => none
  | p :: r => match p.1, k with
    | .int i, .int j => if i = j then some p.2 else dlook k r
    | .str x, .str y => if x = y then some p.2 else dlook k r
    | _, _ => dlook k r
def keyOf : D → Option Key
  | .int i => some (.inl i)
  | .str x => some (.inr x)
  | _ => none
theorem look_of {H : Hp} {k : Key} : ∀ {kvs : List (Key × V)} {ds : List (D × D)}, RpK H kvs ds → (∀ d, dlook (kD k) ds = some d → ∃ v, valV kvs k = some v ∧ Rp H v d) ∧ (dlook (kD k) ds = none → valV kvs k = none)
  | _, _, .nil => ⟨fun d h => (by cases h), fun _ => rfl⟩
  | _, _, .cons (k := k') (v := v) (d := d') h r => by
    have ih := look_of (k := k) r
    have pos : k' = k → ∀ ds, dlook (kD k) ((kD k', d') :: ds) = some d' := fun e ds => by
      subst e
      cases k' <;> simp [dlook, kD]
    have neg : ¬ k' = k → ∀ ds, dlook (kD k) ((kD k', d') :: ds) = dlook (kD k) ds := fun e ds => by
      cases k' <;> cases k <;> simp only [dlook, kD]
      · rw [if_neg fun q => e (by rw [q])]
      · rw [if_neg fun q => e (by rw [q])]
    by_cases e : k' = k
    · rw [pos e]
      refine ⟨fun d hd => ?_, fun hd => (by cases hd)⟩
      cases hd
      exact ⟨v, valV_pos e, h⟩
    · rw [neg e]
      refine ⟨fun d hd => ?_, fun hd => ?_⟩
      · obtain ⟨u, h1, h2⟩ := ih.1 d hd
        exact ⟨u, by rw [valV_neg e]; exact h1, h2⟩
      · rw [valV_neg e]
        exact ih.2 hd
def dixR : D → D → (D → Prop) → Prop
  | .dict kvs, k, P => ∃ d, dlook k kvs = some d ∧ (∃ k', k = kD k') ∧ P d
  | _, _, _ => False
theorem Rp.key {H : Hp} {v : V} {k : Key} (h : Rp H v (kD k)) : v = kV k := by
  cases k with
  | inl i => exact h.int'
  | inr x => exact h.str'
theorem wpE_dix (hu : X.A.units + 1 < cLine) (h : wpE X Tb o δ fun d1 => wpE X Tb i δ fun d2 => dixR d1 d2 P) (hs : NoSl i := by intro _ _; rfl) : wpE X Tb (.Subscript o i pos) δ P := fun B O0 M Lk σ τ H I Q q =>
  sem_e (pe_dget hu pe_sem pe_sem hs) (h B O0 M Lk σ τ H I _ fun x d1 H1 I1 h1 => h1 B O0 M Lk σ _ H1 I1 _ fun y d2 H2 I2 h2 => by
    obtain ⟨O, J⟩ := I2
    obtain ⟨J0, rx, ry⟩ := J.pop2
    have h2 : dixR d1 d2 P := h2
    unfold dixR at h2
    split at h2
    · obtain ⟨d, hd, ⟨k, rfl⟩, h3⟩ := h2
      obtain ⟨p, kvs, rfl, hp, _, rk⟩ := rx.dict'
      obtain ⟨v, hv, rv⟩ := (look_of rk).1 d hd
      have hp' : Rd H2 p (.dK kvs) := hp.elim (fun e => .inl (vis_some e).2) fun ⟨o, e⟩ => .inr ⟨o, (vis_some e).2⟩
      refine ⟨p, v, rfl, .inl ⟨kvs, k, hp', ry.key, hv.symm⟩, q _ _ H2 ⟨O, J0.push rv⟩ h3⟩
    · exact h2.elim)
/-- k in d -/
def dinR : D → D → (D → Prop) → Prop
  | k, .dict kvs, P => (∃ k', k = kD k') ∧ P (.bool (dlook k kvs).isSome)
  | _, _, _ => False
theorem dget_of {O : List Addr} {H : Hp} {x y : V} {k : D} {kvs : List (D × D)} (rx : Rp (vis O H) x k) (ry : Rp (vis O H) y (.dict kvs)) (hk : ∃ k', k = kD k') : ∃ a r, y = .ref a ∧ DGet H a x r ∧ r.isSome = (dlook k kvs).isSome := by
  obtain ⟨k, rfl⟩ := hk
  obtain ⟨p, ks, rfl, hp, _, rk⟩ := ry.dict'
  have hp' : Rd H p (.dK ks) := hp.elim (fun e => .inl (vis_some e).2) fun ⟨o, e⟩ => .inr ⟨o, (vis_some e).2⟩
  refine ⟨p, valV ks k, rfl, .inl ⟨ks, k, hp', rx.key, rfl⟩, ?_⟩
  cases e : dlook (kD k) kvs with
  | none => rw [(look_of rk).2 e]; rfl
  | some d =>
    obtain ⟨v, hv, _⟩ := (look_of rk).1 d e
    rw [hv]
    rfl
theorem wpE_din (hu : X.A.units + 1 < cLine) (h : wpE X Tb a δ fun d1 => wpE X Tb b δ fun d2 => dinR d1 d2 P) (hm : behindInMarks .In b = false := by rfl) : wpE X Tb (.Compare a [.In] [b] pos) δ P := fun B O0 M Lk σ τ H I Q q =>
  sem_e (pe_cmp (pc_din hu pe_sem pe_sem) hm) (h B O0 M Lk σ τ H I _ fun x d1 H1 I1 h1 => h1 B O0 M Lk σ _ H1 I1 _ fun y d2 H2 I2 h2 => by
    obtain ⟨O, J⟩ := I2
    obtain ⟨J0, rx, ry⟩ := J.pop2
    have h2 : dinR d1 d2 P := h2
    unfold dinR at h2
    split at h2
    · obtain ⟨p, r, rfl, hg, he⟩ := dget_of rx ry h2.1
      refine ⟨p, r, rfl, hg, ?_⟩
      rw [he]
      exact q _ _ H2 ⟨O, J0.push (.bl _)⟩ h2.2
    · exact h2.elim)

/-- x in a list, a tuple (of flat things), a sign in a text -/
def flatD : D → Bool
  | .none => true
  | .bool _ => true
  | .int _ => true
  | .str _ => true
  | _ => false
def eqF : D → D → Bool
  | .none, .none => true
  | .bool a, .bool b => a == b
  | .bool a, .int b => (if a = true then 1 else 0) == b
  | .int a, .bool b => a == if b = true then 1 else 0
  | .int a, .int b => a == b
  | .str a, .str b => a == b
  | _, _ => false
theorem flat_of {H : Hp} {v : V} {d : D} (h : Rp H v d) (f : flatD d = true) : flatV v = true := by cases h <;> first | rfl | cases f
theorem eqF_of {H : Hp} {v u : V} {d e : D} (h : Rp H v d) (h' : Rp H u e) (f : flatD d = true) (f' : flatD e = true) : eqV v u = eqF d e := by
  cases h
  case lst => cases f
  case tup => cases f
  case dic => cases f
  all_goals
    cases h'
    case lst => cases f'
    case tup => cases f'
    case dic => cases f'
    all_goals rfl
theorem flatA_of {H : Hp} : ∀ {vs : List V} {ds : List D}, RpA H vs ds → ds.all flatD = true → vs.all flatV = true
  | _, _, .nil, _ => rfl
  | _, _, .cons h r, f => by
    rw [List.all_cons, Bool.and_eq_true] at f ⊢
    exact ⟨flat_of h f.1, flatA_of r f.2⟩
theorem inF_of {H : Hp} {v : V} {d : D} (h : Rp H v d) (f : flatD d = true) : ∀ {vs : List V} {ds : List D}, RpA H vs ds → ds.all flatD = true → inV v vs = ds.any fun y => eqF y d
  | _, _, .nil, _ => rfl
  | _, _, .cons h2 r, f2 => by
    rw [List.all_cons, Bool.and_eq_true] at f2
    have ih := inF_of h f r f2.2
    unfold inV at ih ⊢
    rw [List.any_cons, List.any_cons, ih, eqF_of h2 h f2.1 f]
def inR (neg : Bool) : D → D → (D → Prop) → Prop
  | x, .list ds, P => (flatD x = true ∧ ds.all flatD = true) ∧ P (.bool (if neg then !(ds.any fun y => eqF y x) else ds.any fun y => eqF y x))
  | x, .tuple ds, P => (flatD x = true ∧ ds.all flatD = true) ∧ P (.bool (if neg then !(ds.any fun y => eqF y x) else ds.any fun y => eqF y x))
  | _, _, _ => False
theorem ok_in (neg : Bool) : Ok2 X Tb (rIn X.K neg) (inR neg) := by
  intro B O0 M Lk O δ σ τ H x y d1 d2 P I rx ry h Q q
  unfold inR at h
  split at h
  · obtain ⟨p, xs, rfl, hp, rp⟩ := ry.list'
    refine ⟨p, xs, rfl, .inl (SqL.of (vis_some hp).2), flat_of rx h.1.1, flatA_of rp h.1.2, ?_⟩
    rw [inF_of rx h.1.1 rp h.1.2]
    exact q _ _ H ⟨O, I.push (.bl _)⟩ h.2
  · obtain ⟨p, xs, rfl, hp, rp⟩ := ry.tuple'
    refine ⟨p, xs, rfl, .inr (SqT.of (vis_some hp).2), flat_of rx h.1.1, flatA_of rp h.1.2, ?_⟩
    rw [inF_of rx h.1.1 rp h.1.2]
    exact q _ _ H ⟨O, I.push (.bl _)⟩ h.2
  · exact h.elim

/-! ### built-ins -/
def lenR : List D → (D → Prop) → Prop
  | [.list ds], P => P (.int ds.length)
  | [.tuple ds], P => P (.int ds.length)
  | [.str z], P => z.length ≤ sizeLine ∧ P (.int z.length)
  | [.dict ks], P => P (.int ks.length)
  | _, _ => False
theorem ok_len : OkC X Tb (fun xs H Q => (∃ x n, xs = [x] ∧ LenV X.K x H n ∧ Q (.int n) H) ∨ ∃ a kvs, xs = [V.ref a] ∧ H a = some (.dK kvs) ∧ Q (.int kvs.length) H) (fun ds P => (∀ ks, ds ≠ [.dict ks]) ∧ lenR ds P) := by
  intro B O0 M Lk O δ σ τ H vs ds P I r h Q q
  obtain ⟨hn, h⟩ := h
  unfold lenR at h
  split at h
  · obtain ⟨v, rfl, rv⟩ := r.one'
    obtain ⟨p, xs, rfl, hp, rp⟩ := rv.list'
    refine .inl ⟨_, _, rfl, .inl ⟨xs, SqL.of (vis_some hp).2, rp.length.symm⟩, q _ _ H ⟨O, I.push (.int _)⟩ h⟩
  · obtain ⟨v, rfl, rv⟩ := r.one'
    obtain ⟨p, xs, rfl, hp, rp⟩ := rv.tuple'
    refine .inl ⟨_, _, rfl, .inr ⟨xs, SqT.of (vis_some hp).2, rp.length.symm⟩, q _ _ H ⟨O, I.push (.int _)⟩ h⟩
  · obtain ⟨v, rfl, rv⟩ := r.one'
    rw [rv.str']
    exact .inl ⟨_, _, rfl, ⟨h.1, rfl⟩, q _ _ H ⟨O, I.push (.int _)⟩ h.2⟩
  · exact absurd rfl (hn _)
  · exact h.elim
theorem call_lenX : CallR X (.builtin "len") (fun xs H Q => (∃ x n, xs = [x] ∧ LenV X.K x H n ∧ Q (.int n) H) ∨ ∃ a kvs, xs = [V.ref a] ∧ H a = some (.dK kvs) ∧ Q (.int kvs.length) H) := CallR.or call_len L2.call_lenD
def maxR : List D → (D → Prop) → Prop
  | [.int i, .int j], P => P (.int (max i j))
  | _, _ => False
def minR : List D → (D → Prop) → Prop
  | [.int i, .int j], P => P (.int (min i j))
  | _, _ => False
def absR : List D → (D → Prop) → Prop
  | [.int i], P => P (.int (if i < 0 then -i else i))
  | _, _ => False
def intR : List D → (D → Prop) → Prop
  | [.int i], P => P (.int i)
  | [.bool k], P => P (.int (if k then 1 else 0))
  | _, _ => False
theorem ok_max : OkC X Tb (fun xs H Q => ∃ i j, xs = [.int i, .int j] ∧ Q (.int (if j > i then j else i)) H) maxR := by
  intro B O0 M Lk O δ σ τ H vs ds P I r h Q q
  unfold maxR at h
  split at h
  · rename_i i j
    obtain ⟨v, u, rfl, rv, ru⟩ := r.two'
    rw [rv.int', ru.int']
    have e : (if j > i then j else i) = max i j := by split <;> omega
    refine ⟨i, j, rfl, ?_⟩
    rw [e]
    exact q _ _ H ⟨O, I.push (.int _)⟩ h
  · exact h.elim
theorem ok_min : OkC X Tb (fun xs H Q => ∃ i j, xs = [.int i, .int j] ∧ Q (.int (if j < i then j else i)) H) minR := by
  intro B O0 M Lk O δ σ τ H vs ds P I r h Q q
  unfold minR at h
  split at h
  · rename_i i j
    obtain ⟨v, u, rfl, rv, ru⟩ := r.two'
    rw [rv.int', ru.int']
    have e : (if j < i then j else i) = min i j := by split <;> omega
    refine ⟨i, j, rfl, ?_⟩
    rw [e]
    exact q _ _ H ⟨O, I.push (.int _)⟩ h
  · exact h.elim
theorem ok_abs : OkC X Tb (fun xs H Q => ∃ i, xs = [.int i] ∧ Q (.int (if i < 0 then -i else i)) H) absR := by
  intro B O0 M Lk O δ σ τ H vs ds P I r h Q q
  unfold absR at h
  split at h
  · obtain ⟨v, rfl, rv⟩ := r.one'
    rw [rv.int']
    exact ⟨_, rfl, q _ _ H ⟨O, I.push (.int _)⟩ h⟩
  · exact h.elim
theorem ok_int : OkC X Tb (fun xs H Q => (∃ i, xs = [.int i] ∧ Q (.int i) H) ∨ ∃ k, xs = [.bl k] ∧ Q (.int (if k then 1 else 0)) H) intR := by
  intro B O0 M Lk O δ σ τ H vs ds P I r h Q q
  unfold intR at h
  split at h
  · obtain ⟨v, rfl, rv⟩ := r.one'
    rw [rv.int']
    exact .inl ⟨_, rfl, q _ _ H ⟨O, I.push (.int _)⟩ h⟩
  · obtain ⟨v, rfl, rv⟩ := r.one'
    rw [rv.bool']
    exact .inr ⟨_, rfl, q _ _ H ⟨O, I.push (.int _)⟩ h⟩
  · exact h.elim
end
end DL

set_option Elab.async false
set_option linter.all false
set_option maxRecDepth 100000
set_option maxHeartbeats 2000000
/-! DL4: promises and calls of defs, statements. -/
namespace DL
open PySem PySem.Spec L2

/-! ### promises: m feeds (0 or 1), then n data -/
def spD (Tb : List Addr) (m n : Nat) (pre : List D → Prop) (post : List D → D → Prop) : Sp := fun vs H Q _ => ∃ (O0 M : List Addr) (ws : List V) (ds : List D),
  vs = M.map V.ref ++ ws ∧ M.length = m ∧ (∀ p ∈ M, p ∈ O0) ∧ (∀ p ∈ O0, H p ≠ none) ∧ (∀ f ∈ M, FeedAt H f) ∧ (∀ P ∈ Tb, GxR.TabG H P) ∧ RpA (vis O0 H) ws ds ∧ ds.length = n ∧ pre ds ∧
  ∀ v d H', Gr M [] H H' → Nf H H' → (∀ f ∈ M, FeedAt H' f) → Rp (vis O0 H') v d → post ds d → Q v H'

section
variable {X : Cx} {Tb : List Addr} {δ : Dl} {a b c e o i : Expr} {es : List Expr} {pos pos' p : Pos} {P P' : D → Prop} {x : Str} {fA : Addr} {fd : FuncData} {k m n : Nat} {ps : List Str} {pre : List D → Prop} {post : List D → D → Prop}
theorem wpE_call (F : FnOk X.prog X.w X.K X.mg X.base CX0 k fA fd ps (spD Tb 0 n pre post)) (hr : Room k X.A) (hm : X.mg x = some (.ref fA)) (hk : PySem.W.keepIn X.K (.ref fA) = true) (hb : Binds X.K fd ps [])
    (h : wpA X Tb (e :: es) δ fun ds => ds.length = n ∧ pre ds ∧ ∀ d, post ds d → P d) (hg : Gl X x := by rfl) (hdb : (x == ("__debug__" : Str)) = false := by decide) (he : starEach (e :: es) X.env = (false, eval e X.env) :: starEach es X.env := by rfl) (hpl : (backTo pos (starEach es X.env)).any (·.1) = false := by rfl) :
    wpE X Tb (.Call (.Name x p) (e :: es) [] pos) δ P := fun B O0 M Lk σ τ H I Q q =>
  sem_e (pe_call F hr hg hm hk hb .nil (pass0 (X := X)) pa_sem hdb he hpl) (h B O0 M Lk σ τ H I _ fun ps H1 J h1 => by
    obtain ⟨O, J⟩ := J
    obtain ⟨J0, r⟩ := J.popA
    obtain ⟨h1, h2, h3⟩ := h1
    refine ⟨O, [], ps.map (·.1), ps.map (·.2), List.append_nil _, rfl, (fun _ z => nomatch z), J.live, (fun _ z => nomatch z), J.tabs, r, h1, h2, fun v d H' g nf _ rv hp => ?_⟩
    exact q v d H' ⟨O, (J0.grow g (fun _ z => nomatch z) (fun _ z => nomatch z) (fun _ z => nomatch z) (fun _ z => nomatch z) nf).push rv⟩ (h3 d hp))
/-- f(feed, ..): the feed stands in slot j -/
theorem wpE_callF {y : Str} {py : Pos} (j : Nat) (F : FnOk X.prog X.w X.K X.mg X.base CX0 k fA fd ps (spD Tb 1 n pre post)) (hr : Room k X.A) (hm : X.mg x = some (.ref fA)) (hk : PySem.W.keepIn X.K (.ref fA) = true) (hb : Binds X.K fd ps [])
    (hj : δ[j]? = some (some (.own .feed))) (h : wpA X Tb es δ fun ds => ds.length = n ∧ pre ds ∧ ∀ d, post ds d → P d) (hN : X.N[j]? = some y := by rfl)
    (hv : Vis X.env.scope y := by first | exact Or.inl rfl | exact Or.inr (Or.inl rfl) | exact Or.inr (Or.inr rfl)) (hd1 : (y == ("__debug__" : Str)) = false := by decide) (hd2 : (y == ("__classdict__" : Str)) = false := by decide)
    (hg : Gl X x := by rfl) (hdb : (x == ("__debug__" : Str)) = false := by decide) (he : starEach (.Name y py :: es) X.env = (false, eval (.Name y py) X.env) :: starEach es X.env := by rfl) (hpl : (backTo pos (starEach es X.env)).any (·.1) = false := by rfl) :
    wpE X Tb (.Call (.Name x p) (.Name y py :: es) [] pos) δ P := fun B O0 M Lk σ τ H I Q q => by
  refine sem_e (pe_call F hr hg hm hk hb .nil (pass0 (X := X)) (pa_cons (pe_var hN hv hd1 hd2) pa_sem he) hdb he hpl) ?_
  obtain ⟨O, I⟩ := I
  obtain ⟨v0, e0, f, rfl, hfO, hfB, _, hfd⟩ := I.slots j _ hj
  refine ⟨.ref f, e0, h B O0 M Lk σ τ H ⟨O, I⟩ _ fun ps H1 J h1 => ?_⟩
  obtain ⟨O1, J⟩ := J
  obtain ⟨J0, r⟩ := J.popA
  obtain ⟨h1, h2, h3⟩ := h1
  obtain ⟨v1, e1, f1, e2, hfO1, hfB1, _, hfd1⟩ := J0.slots j _ hj
  have ev : V.ref f = v1 := by
    have := e0.symm.trans e1
    exact Option.some.inj (Option.some.inj this)
  rw [e2] at ev
  obtain rfl : f = f1 := V.ref.inj ev
  refine ⟨O1, [f], ps.map (·.1), ps.map (·.2), ?_, rfl, (fun p hp => ?_), J.live, (fun g hg => ?_), J.tabs, r, h1, h2, fun v d H' g nf hf rv hp => ?_⟩
  · show (.ref f :: _) ++ ([] : List V) = .ref f :: ([] ++ _)
    rw [List.append_nil, List.nil_append]
  · rw [List.mem_singleton.mp hp]; exact hfO1
  · rw [List.mem_singleton.mp hg]; exact hfd1
  · refine q v d H' ⟨O1, (J0.grow g hf (fun g' hg' => ?_) (fun g' hg' i o ho hs => ?_) (fun g' hg' p hp z => ?_) nf).push rv⟩ (h3 d hp)
    · rw [List.mem_singleton.mp hg']; exact ⟨hfO1, hfB1, hfd1⟩
    · rw [List.mem_singleton.mp hg'] at hs
      obtain rfl := J0.sep i j o .feed f ho hj hs e0
      rw [hj] at ho
      cases ho
      rfl
    · rw [List.mem_singleton.mp hg'] at z
      exact (J0.hid p hp).2.2.2 j _ hj (by rw [z]; exact e0)
end

/-- a target takes a value -/
structure semG (X : Cx) (tg : Expr) (v : V) (σ : L2.St) (H : Hp) (Q : L2.St → Hp → Prop) : Prop where
  run : ∀ pins s u, Inv X pins σ H s → RelV v u → wpAny (model X.prog X.w) X.A (assign tg X.env u) (fun _ s' => ∃ σ' H', Inv X pins σ' H' s' ∧ Q σ' H') X.xe s
/-! ### statements -/
structure Rs where
  nx : Dl → Prop
  rt : D → Prop
  bk : Dl → Prop := fun _ => False
  ct : Dl → Prop := fun _ => False
structure Ret (G : Glo) (B : Hp) (O0 M : List Addr) (Lk : Lks) (v : V) (H : Hp) (d : D) : Prop where
  gr : Gr M (Lk.1.map (·.1)) B H
  feeds : ∀ f ∈ M, FeedAt H f
  rp : Rp (vis O0 H) v d
  lck : ∀ p ∈ Lk.1, p.1 ∉ O0 ∧ H p.1 = some (.frz p.2.1 p.2.2)
  nof : ∀ a od u, H a = some (.frz od u) → B a ≠ none ∨ a ∈ Lk.1.map (·.1)
def Es (G : Glo) (B : Hp) (O0 M : List Addr) (Lk : Lks) (τ : List (V × D)) (R : Rs) : Ends :=
  ⟨fun σ' H' => ∃ δ', At G B O0 M Lk δ' σ' τ H' ∧ R.nx δ', fun v H' => ∃ d, Ret G B O0 M Lk v H' d ∧ R.rt d, fun σ' H' => ∃ δ', At G B O0 M Lk δ' σ' τ H' ∧ R.bk δ', fun σ' H' => ∃ δ', At G B O0 M Lk δ' σ' τ H' ∧ R.ct δ'⟩
section
variable (X : Cx) (Tb : List Addr)
def wpS (st : Stmt) (δ : Dl) (R : Rs) : Prop := ∀ B O0 M Lk σ τ H, At (GX X Tb) B O0 M Lk δ σ τ H → semS X st (Es (GX X Tb) B O0 M Lk τ R) σ H
def wpSs (st : List Stmt) (δ : Dl) (R : Rs) : Prop := ∀ B O0 M Lk σ τ H, At (GX X Tb) B O0 M Lk δ σ τ H → semSs X st (Es (GX X Tb) B O0 M Lk τ R) σ H
/-- a target takes d -/
def wpG (tg : Expr) (d : D) (δ : Dl) (P : Dl → Prop) : Prop := ∀ B O0 M Lk σ τ H v, At (GX X Tb) B O0 M Lk δ σ ((v, d) :: τ) H → ∀ Q : L2.St → Hp → Prop, (∀ δ' σ' H', At (GX X Tb) B O0 M Lk δ' σ' τ H' → P δ' → Q σ' H') →
  semG X tg v σ H Q
end
structure Ends.Le (D D' : Ends) : Prop where
  nx : ∀ σ H, D.nx σ H → D'.nx σ H
  rt : ∀ v H, D.rt v H → D'.rt v H
  bk : ∀ σ H, D.bk σ H → D'.bk σ H
  ct : ∀ σ H, D.ct σ H → D'.ct σ H
section
variable {X : Cx} {Tb : List Addr} {δ : Dl} {a b c e o i : Expr} {es : List Expr} {pos pos' p : Pos} {P P' : D → Prop} {st : Stmt} {sts : List Stmt} {R R' : Rs}
theorem SP.le {D D' : Ends} {pins : List (Addr × Obj)} {f : Flow} {s : Shared} (l : Ends.Le D D') (h : SP X pins D f s) : SP X pins D' f s := by
  cases f with
  | next => obtain ⟨σ', H', I, q⟩ := h; exact ⟨σ', H', I, l.nx _ _ q⟩
  | brk => obtain ⟨σ', H', I, q⟩ := h; exact ⟨σ', H', I, l.bk _ _ q⟩
  | cont => obtain ⟨σ', H', I, q⟩ := h; exact ⟨σ', H', I, l.ct _ _ q⟩
  | ret u => obtain ⟨v, σ', H', I, r, q⟩ := h; exact ⟨v, σ', H', I, r, l.rt _ _ q⟩
theorem semS_le {D D' : Ends} {σ : L2.St} {H : Hp} (l : Ends.Le D D') (h : semS X st D σ H) : semS X st D' σ H := ⟨fun pins s I => thn (h.run pins s I) fun _ _ q => SP.le l q⟩
theorem semSs_le {D D' : Ends} {σ : L2.St} {H : Hp} (l : Ends.Le D D') (h : semSs X sts D σ H) : semSs X sts D' σ H := ⟨fun pins s I => thn (h.run pins s I) fun _ _ q => SP.le l q⟩
theorem wpSs_nil (h : R.nx δ) : wpSs X Tb [] δ R := fun B O0 M Lk σ τ H I => sem_ss pss_nil ⟨δ, I, h⟩
theorem wpSs_cons (h : wpS X Tb st δ ⟨fun δ' => wpSs X Tb sts δ' R, R.rt, R.bk, R.ct⟩) : wpSs X Tb (st :: sts) δ R := fun B O0 M Lk σ τ H I =>
  sem_ss (pss_cons ps_sem pss_sem) (by
    have h0 := h B O0 M Lk σ τ H I
    refine semS_le ?_ h0
    exact ⟨fun _ _ ⟨δ', J, q⟩ => q B O0 M Lk _ τ _ J, fun _ _ q => q, fun _ _ q => q, fun _ _ q => q⟩)
theorem wpSs_one (h : wpS X Tb st δ R) : wpSs X Tb [st] δ R := fun B O0 M Lk σ τ H I => sem_ss (pss_one ps_sem) (h B O0 M Lk σ τ H I)
theorem wpS_pass (h : R.nx δ) : wpS X Tb (.Pass pos) δ R := fun B O0 M Lk σ τ H I => sem_s ps_pass ⟨δ, I, h⟩
theorem wpS_break (h : R.bk δ) : wpS X Tb (.Break pos) δ R := fun B O0 M Lk σ τ H I => sem_s ps_break ⟨δ, I, h⟩
theorem wpS_continue (h : R.ct δ) : wpS X Tb (.Continue pos) δ R := fun B O0 M Lk σ τ H I => sem_s ps_continue ⟨δ, I, h⟩
theorem wpS_expr (h : wpE X Tb e δ fun _ => R.nx δ) (hs : swapsWith e none pos.line X.env = pure false := by rfl) : wpS X Tb (.Expr e pos) δ R := fun B O0 M Lk σ τ H I =>
  sem_s (ps_expr pe_sem hs) (h B O0 M Lk σ τ H I _ fun v d H' J q => ⟨δ, J.pop, q⟩)
theorem At.ret {G : Glo} {B : Hp} {O0 M : List Addr} {Lk : Lks} {σ : L2.St} {τ : List (V × D)} {H : Hp} {v : V} {d : D} (I : At G B O0 M Lk δ σ ((v, d) :: τ) H) : Ret G B O0 M Lk v H d := by
  obtain ⟨O, I⟩ := I
  exact ⟨I.gr, I.feeds, (I.tmp _ List.mem_cons_self).mono (vis_le I.sub0), fun p hp => ⟨fun z => (I.lck p hp).1 (I.sub0 _ z), (I.lck p hp).2⟩, I.nof⟩
theorem wpS_ret (h : wpE X Tb e δ R.rt) : wpS X Tb (.Return (some e) pos) δ R := fun B O0 M Lk σ τ H I =>
  sem_s (ps_ret pe_sem) (h B O0 M Lk σ τ H I _ fun v d H' J q => ⟨d, J.ret, q⟩)
theorem wpS_retN (h : R.rt .none) : wpS X Tb (.Return none pos) δ R := fun B O0 M Lk σ τ H I => sem_s ps_retN ⟨.none, (I.pushS (v := .non) (d := .none) fun _ => .non).ret, h⟩
theorem wpS_if {sa sb : List Stmt} (h : wpT X Tb c δ fun k => if k = true then wpSs X Tb sa δ R else wpSs X Tb sb δ R) : wpS X Tb (.If c sa sb pos) δ R := fun B O0 M Lk σ τ H I =>
  sem_s (ps_if pt_sem pss_sem pss_sem) (h B O0 M Lk σ τ H I _ fun k H' J q => by
    cases k with
    | true => exact q B O0 M Lk σ τ H' J
    | false => exact q B O0 M Lk σ τ H' J)
theorem AtO.set {G : Glo} {B : Hp} {O0 M O : List Addr} {Lk : Lks} {σ : L2.St} {τ : List (V × D)} {H : Hp} {v : V} {d : D} {j : Nat} (I : AtO G B O0 M Lk O δ σ τ H) (h : Rp (vis O H) v d) : AtO G B O0 M Lk O (δ.set j (some (.d d))) (σ.set j (some v)) τ H := by
  refine ⟨I.sub0, I.subM, I.o0, I.new, I.live, I.gr, fun p hp => ⟨(I.hid p hp).1, (I.hid p hp).2.1, (I.hid p hp).2.2.1, fun i o e => ?_⟩, I.hidT, I.feeds, I.tabs, I.tmp, by rw [List.length_set, List.length_set]; exact I.len, fun i sl e => ?_, fun i k o o' q e1 e2 e3 e4 => ?_, I.lck, I.nof⟩
  · by_cases hj : j = i
    · subst hj
      have hlt : j < δ.length := by
        have := (List.getElem?_eq_some_iff.mp e).1
        rwa [List.length_set] at this
      rw [List.getElem?_set_self hlt] at e
      cases e
    · rw [List.getElem?_set_ne hj] at e ⊢
      exact (I.hid p hp).2.2.2 i o e
  · by_cases hj : j = i
    · subst hj
      have hlt : j < δ.length := by
        have := (List.getElem?_eq_some_iff.mp e).1
        rwa [List.length_set] at this
      rw [List.getElem?_set_self hlt] at e
      cases e
      exact ⟨v, by rw [List.getElem?_set_self (by rw [← I.len]; exact hlt)], h⟩
    · rw [List.getElem?_set_ne hj] at e
      obtain ⟨u, h1, h2⟩ := I.slots i sl e
      exact ⟨u, by rw [List.getElem?_set_ne hj]; exact h1, h2⟩
  · have ne : ∀ {i o}, (δ.set j (some (.d d)))[i]? = some (some (Sl.own o)) → j ≠ i := fun {i o} e z => by
      subst z
      have hlt : j < δ.length := by
        have := (List.getElem?_eq_some_iff.mp e).1
        rwa [List.length_set] at this
      rw [List.getElem?_set_self hlt] at e
      cases e
    have n1 := ne e1
    have n2 := ne e2
    rw [List.getElem?_set_ne n1] at e1 e3
    rw [List.getElem?_set_ne n2] at e2 e4
    exact I.sep i k o o' q e1 e2 e3 e4
theorem wpS_set {x : Str} {px : Pos} (j : Nat) (h : wpE X Tb e δ fun d => R.nx (δ.set j (some (.d d)))) (hN : X.N.Nodup) (hi : X.N[j]? = some x := by rfl) (hx : Loc X.env.scope x := by first | exact Or.inl rfl | exact Or.inr rfl)
    (hs : swapsWith e (some (.Name x px)) pos.line X.env = pure false := by rfl) (hf : X.fn x = true ∨ X.env.scope.names.lookup x = some .local := by first | exact .inl rfl | exact .inr rfl) : wpS X Tb (.Assign [.Name x px] e pos) δ R := fun B O0 M Lk σ τ H I =>
  sem_s (ps_set hN hi hx pe_sem hs hf) (h B O0 M Lk σ τ H I _ fun v d H' J q => by
    obtain ⟨O, J⟩ := J
    obtain ⟨J0, r⟩ := J.pop1
    exact ⟨_, ⟨O, J0.set r⟩, q⟩)
theorem wpG_name {x : Str} {px : Pos} {d : D} {P : Dl → Prop} (j : Nat) (h : P (δ.set j (some (.d d)))) (hN : X.N.Nodup) (hi : X.N[j]? = some x := by rfl) (hx : Loc X.env.scope x := by first | exact Or.inl rfl | exact Or.inr rfl)
    (hf : X.fn x = true ∨ X.env.scope.names.lookup x = some .local := by first | exact .inl rfl | exact .inr rfl) : wpG X Tb (.Name x px) d δ P := fun B O0 M Lk σ τ H v J Q q => ⟨fun pins s u I r => by
  obtain ⟨O, J⟩ := J
  obtain ⟨J0, rv⟩ := J.pop1
  exact (pg_name (pos := px) hN hi hx hf).run pins s σ H v u Q I r (q _ _ H ⟨O, J0.set rv⟩ h)⟩

/-! ### lists of the frame's own -/
/-- a new list -/
def wpF (X : Cx) (Tb : List Addr) (e : Expr) (δ : Dl) (P : List D → Prop) : Prop := ∀ B O0 M Lk σ τ H, At (GX X Tb) B O0 M Lk δ σ τ H → ∀ Q : VK,
  (∀ O xs ds q H', AtO (GX X Tb) B O0 M Lk O δ σ τ H' → H' q = none → RpA (vis O H') xs ds → P ds → Q (.ref q) (upd H' q (.lst xs))) → semE X e σ H Q
theorem wpF_lst {P : List D → Prop} (h : wpA X Tb es δ fun ds => ds.length ≤ sizeLine ∧ P ds) : wpF X Tb (.List es pos) δ P := fun B O0 M Lk σ τ H I Q q =>
  sem_e (pe_lst pa_sem) (h B O0 M Lk σ τ H I _ fun ps H' J h3 => by
    obtain ⟨O, J⟩ := J
    obtain ⟨J0, r⟩ := J.popA
    exact ⟨by rw [r.length]; exact h3.1, fun p hp => q O _ _ p H' J0 hp r h3.2⟩)
theorem wpF_cat {P : List D → Prop} (h : wpE X Tb a δ fun d1 => wpE X Tb b δ fun d2 => ∃ xs ys, d1 = .list xs ∧ d2 = .list ys ∧ xs.length + ys.length ≤ sizeLine ∧ P (xs ++ ys)) : wpF X Tb (.BinOp a .Add b pos) δ P := fun B O0 M Lk σ τ H I Q q =>
  sem_e (pe_op op_cat pe_sem pe_sem) (h B O0 M Lk σ τ H I _ fun x d1 H1 I1 h1 => h1 B O0 M Lk σ _ H1 I1 _ fun y d2 H2 I2 h2 => by
    obtain ⟨xs, ys, rfl, rfl, hl, h2⟩ := h2
    obtain ⟨O, J⟩ := I2
    obtain ⟨J0, rx, ry⟩ := J.pop2
    obtain ⟨a, us, rfl, ha, ra⟩ := rx.list'
    obtain ⟨b, ws, rfl, hb, rb⟩ := ry.list'
    exact ⟨a, b, us, ws, rfl, rfl, (vis_some ha).2, (vis_some hb).2, by rw [ra.length, rb.length]; exact hl, fun p hp => q O _ _ p H2 J0 hp (ra.append rb) h2⟩)
theorem AtO.own {G : Glo} {B : Hp} {O0 M O : List Addr} {Lk : Lks} {σ : L2.St} {τ : List (V × D)} {H : Hp} {xs : List V} {ds : List D} {q : Addr} {j : Nat} (I : AtO G B O0 M Lk O δ σ τ H) (hq : H q = none) (r : RpA (vis O H) xs ds) :
    AtO G B O0 M Lk (q :: O) (δ.set j (some (.own (.lst ds)))) (σ.set j (some (.ref q))) τ (upd H q (.lst xs)) := by
  obtain ⟨J, hn⟩ := I.alloc (o := .lst xs) hq
  have hB : B q = none := by
    cases e : B q with
    | none => rfl
    | some u =>
      have hM : q ∉ M := fun z => hn (I.sub0 _ (I.subM _ z))
      rcases I.gr q u hM e with h | ⟨_, _, _, h, _⟩ | ⟨_, _, h⟩ <;> rw [hq] at h <;> cases h
  have ve : vis (q :: O) (upd H q (.lst xs)) = vis O H := by
    funext a
    by_cases ha : a = q
    · subst ha
      rw [vis_in List.mem_cons_self, vis_out hn, hq]
    · by_cases ho : a ∈ O
      · rw [vis_in (List.mem_cons_of_mem _ ho), vis_in ho]
      · rw [vis_out (by simp [ha, ho]), vis_out ho, upd_ne ha]
  have hlen : (δ.set j (some (.own (.lst ds)))).length = (σ.set j (some (.ref q))).length := by rw [List.length_set, List.length_set]; exact I.len
  have oldref : ∀ (i : Nat) (o : OD), δ[i]? = some (some (.own o)) → σ[i]? ≠ some (some (.ref q)) := fun i o e z => by
    obtain ⟨v, h1, p, rfl, h2, _⟩ := I.slots i _ e
    rw [z] at h1
    have : V.ref q = V.ref p := Option.some.inj (Option.some.inj h1)
    exact hn (by rw [V.ref.inj this]; exact h2)
  refine ⟨fun p hp => List.mem_cons_of_mem _ (I.sub0 p hp), I.subM, I.o0, fun p hp => ?_, fun p hp => ?_, J.gr, fun p hp => ?_, I.hidT, J.feeds, J.tabs, fun p hp => by rw [ve]; exact I.tmp p hp, hlen, fun i sl e => ?_, fun i k o o' p e1 e2 e3 e4 => ?_, fun p hp => ⟨fun z => (List.mem_cons.mp z).elim (fun z => by have h := (I.lck p hp).2; rw [z, hq] at h; cases h) (I.lck p hp).1, by rw [upd_ne fun z => by have h := (I.lck p hp).2; rw [z, hq] at h; cases h]; exact (I.lck p hp).2⟩, J.nof⟩
  · rcases List.mem_cons.mp hp with e | hp
    · exact .inr (by rw [e]; exact hB)
    · exact I.new p hp
  · rcases List.mem_cons.mp hp with e | hp
    · rw [e, upd_same]
      exact fun z => nomatch z
    · exact J.live p hp
  · obtain ⟨h1, h2, h3, h4⟩ := I.hid p hp
    have np : p.1 ≠ q := fun z => hn (by rw [← z]; exact h2)
    refine ⟨by rw [upd_ne np]; exact h1, List.mem_cons_of_mem _ h2, h3, fun i o e => ?_⟩
    by_cases hj : j = i
    · subst hj
      have hlt : j < δ.length := by
        have := (List.getElem?_eq_some_iff.mp e).1
        rwa [List.length_set] at this
      rw [List.getElem?_set_self (by rw [← I.len]; exact hlt)]
      exact fun z => np (V.ref.inj (Option.some.inj (Option.some.inj z))).symm
    · rw [List.getElem?_set_ne hj] at e ⊢
      exact h4 i o e
  · by_cases hj : j = i
    · subst hj
      have hlt : j < δ.length := by
        have := (List.getElem?_eq_some_iff.mp e).1
        rwa [List.length_set] at this
      rw [List.getElem?_set_self hlt] at e
      cases e
      exact ⟨.ref q, by rw [List.getElem?_set_self (by rw [← I.len]; exact hlt)], q, rfl, List.mem_cons_self, .inr hB, .inr hB, xs, upd_same, by rw [ve]; exact r⟩
    · rw [List.getElem?_set_ne hj] at e
      obtain ⟨u, h1, h2⟩ := I.slots i sl e
      refine ⟨u, by rw [List.getElem?_set_ne hj]; exact h1, ?_⟩
      cases sl with
      | d d =>
        show Rp (vis (q :: O) _) u d
        rw [ve]
        exact h2
      | scr ns =>
        obtain ⟨a, e2, h2⟩ := h2
        refine ⟨a, e2, ?_⟩
        rw [ve]
        exact h2
      | own o =>
        obtain ⟨p, e2, hp, hb, hb2, h2⟩ := h2
        refine ⟨p, e2, List.mem_cons_of_mem _ hp, hb, hb2, ?_⟩
        have np : p ≠ q := fun z => hn (by rw [← z]; exact hp)
        cases o with
        | feed => obtain ⟨a, b, h2⟩ := h2; exact ⟨a, b, by rw [upd_ne np]; exact h2⟩
        | lst ds => obtain ⟨ys, h2, h3⟩ := h2; exact ⟨ys, by rw [upd_ne np]; exact h2, by rw [ve]; exact h3⟩
        | dic ks => obtain ⟨ys, h2, h4, h3⟩ := h2; exact ⟨ys, by rw [upd_ne np]; exact h2, h4, by rw [ve]; exact h3⟩
  · by_cases h1 : j = i
    · by_cases h2 : j = k
      · exact h1.symm.trans h2
      · subst h1
        have hlt : j < δ.length := by
          have := (List.getElem?_eq_some_iff.mp e1).1
          rwa [List.length_set] at this
        rw [List.getElem?_set_self (by rw [← I.len]; exact hlt)] at e3
        have ep : q = p := V.ref.inj (Option.some.inj (Option.some.inj e3))
        rw [List.getElem?_set_ne h2] at e2 e4
        exact (oldref k o' e2 (by rw [ep]; exact e4)).elim
    · rw [List.getElem?_set_ne h1] at e1 e3
      by_cases h2 : j = k
      · subst h2
        have hlt : j < δ.length := by
          have := (List.getElem?_eq_some_iff.mp e2).1
          rwa [List.length_set] at this
        rw [List.getElem?_set_self (by rw [← I.len]; exact hlt)] at e4
        have ep : q = p := V.ref.inj (Option.some.inj (Option.some.inj e4))
        exact (oldref i o e1 (by rw [ep]; exact e3)).elim
      · rw [List.getElem?_set_ne h2] at e2 e4
        exact I.sep i k o o' p e1 e2 e3 e4
/-- name = a new list, which the frame owns -/
theorem wpS_own {x : Str} {px : Pos} (j : Nat) (h : wpF X Tb e δ fun ds => R.nx (δ.set j (some (.own (.lst ds))))) (hN : X.N.Nodup) (hi : X.N[j]? = some x := by rfl) (hx : Loc X.env.scope x := by first | exact Or.inl rfl | exact Or.inr rfl)
    (hs : swapsWith e (some (.Name x px)) pos.line X.env = pure false := by rfl) (hf : X.fn x = true ∨ X.env.scope.names.lookup x = some .local := by first | exact .inl rfl | exact .inr rfl) : wpS X Tb (.Assign [.Name x px] e pos) δ R := fun B O0 M Lk σ τ H I =>
  sem_s (ps_set hN hi hx pe_sem hs hf) (h B O0 M Lk σ τ H I _ fun O xs ds q H' J hq r p => ⟨_, ⟨_, J.own (j := j) hq r⟩, p⟩)
/-- the frame hands a list of its own out of its care -/
theorem AtO.thaw {G : Glo} {B : Hp} {O0 M O : List Addr} {Lk : Lks} {σ : L2.St} {τ : List (V × D)} {H : Hp} {ds : List D} {j : Nat} (I : AtO G B O0 M Lk O δ σ τ H) (hj : δ[j]? = some (some (.own (.lst ds)))) : ∃ O', AtO G B O0 M Lk O' (δ.set j (some (.d (.list ds)))) σ τ H := by
  obtain ⟨v, hv, p, rfl, hp, _, hb2, xs, hx, r⟩ := I.slots j _ hj
  have hB : B p = none := hb2.elim (fun z => by cases z) id
  have memO : ∀ {a}, a ∈ O.filter (fun a => decide (a ≠ p)) ↔ a ∈ O ∧ a ≠ p := fun {a} => by simp
  have le : Le (vis O H) (vis (O.filter (fun a => decide (a ≠ p))) H) := vis_le fun a ha => (memO.mp ha).1
  have hlt : j < δ.length := (List.getElem?_eq_some_iff.mp hj).1
  refine ⟨O.filter (fun a => decide (a ≠ p)), fun a ha => memO.mpr ⟨I.sub0 a ha, fun z => I.o0 a ha (by rw [z]; exact hB)⟩, I.subM, I.o0, fun a ha => I.new a (memO.mp ha).1, fun a ha => I.live a (memO.mp ha).1, I.gr, fun q hq => ?_, I.hidT, I.feeds, I.tabs, fun q hq => (I.tmp q hq).mono le,
    by rw [List.length_set]; exact I.len, fun i sl e => ?_, fun i k o o' q e1 e2 e3 e4 => ?_, fun q hq => ⟨fun z => (I.lck q hq).1 (memO.mp z).1, (I.lck q hq).2⟩, I.nof⟩
  · obtain ⟨h1, h2, h3, h4⟩ := I.hid q hq
    refine ⟨h1, memO.mpr ⟨h2, fun z => h4 j _ hj (by rw [z]; exact hv)⟩, h3, fun i o e => ?_⟩
    by_cases h5 : j = i
    · subst h5
      rw [List.getElem?_set_self hlt] at e
      cases e
    · rw [List.getElem?_set_ne h5] at e
      exact h4 i o e
  · by_cases h1 : j = i
    · subst h1
      rw [List.getElem?_set_self hlt] at e
      cases e
      refine ⟨.ref p, hv, .lst ?_ (r.mono le)⟩
      rw [vis_out fun z => (memO.mp z).2 rfl]
      exact hx
    · rw [List.getElem?_set_ne h1] at e
      obtain ⟨u, h2, h3⟩ := I.slots i sl e
      refine ⟨u, h2, ?_⟩
      cases sl with
      | d d => exact Rp.mono le h3
      | scr ns => obtain ⟨a, e2, h3⟩ := h3; exact ⟨a, e2, ex_seq le h3⟩
      | own o =>
        obtain ⟨a, e2, ha, hb, hb2, h3⟩ := h3
        have na : a ≠ p := fun z => h1 (I.sep j i _ o p hj e hv (by rw [h2, e2, z]))
        refine ⟨a, e2, memO.mpr ⟨ha, na⟩, hb, hb2, ?_⟩
        cases o with
        | feed => exact h3
        | lst ds => obtain ⟨zs, h4, h5⟩ := h3; exact ⟨zs, h4, h5.mono le⟩
        | dic ks => obtain ⟨zs, h4, h6, h5⟩ := h3; exact ⟨zs, h4, h6, h5.mono le⟩
  · have n : ∀ {i o}, (δ.set j (some (.d (.list ds))))[i]? = some (some (Sl.own o)) → j ≠ i := fun {i o} e z => by
      subst z
      rw [List.getElem?_set_self hlt] at e
      cases e
    rw [List.getElem?_set_ne (n e1)] at e1
    rw [List.getElem?_set_ne (n e2)] at e2
    exact I.sep i k o o' q e1 e2 e3 e4
theorem wpSs_thaw {ds : List D} (j : Nat) (hj : δ[j]? = some (some (.own (.lst ds)))) (h : wpSs X Tb sts (δ.set j (some (.d (.list ds)))) R) : wpSs X Tb sts δ R := fun B O0 M Lk σ τ H I => by
  obtain ⟨O, I⟩ := I
  obtain ⟨O', I'⟩ := I.thaw hj
  exact h B O0 M Lk σ τ H ⟨O', I'⟩
theorem AtO.mutL {G : Glo} {B : Hp} {O0 M O : List Addr} {Lk : Lks} {σ : L2.St} {τ : List (V × D)} {H : Hp} {ds es : List D} {ys : List V} {j : Nat} {p : Addr} (I : AtO G B O0 M Lk O δ σ τ H) (hj : δ[j]? = some (some (.own (.lst ds)))) (hp : σ[j]? = some (some (.ref p))) (r : RpA (vis O H) ys es) :
    AtO G B O0 M Lk O (δ.set j (some (.own (.lst es)))) σ τ (upd H p (.lst ys)) := by
  obtain ⟨v, hv, p', rfl, hpO, _, hb2, xs, hx, _⟩ := I.slots j _ hj
  obtain rfl : p = p' := V.ref.inj (Option.some.inj (Option.some.inj (hp.symm.trans hv)))
  have hB : B p = none := hb2.elim (fun z => by cases z) id
  have hM : p ∉ M := fun z => I.o0 p (I.subM p z) hB
  have ve : vis O (upd H p (.lst ys)) = vis O H := le_mut hpO
  have hlt : j < δ.length := (List.getElem?_eq_some_iff.mp hj).1
  refine ⟨I.sub0, I.subM, I.o0, I.new, fun a ha => ?_, I.gr.mut (.inr hB), fun q hq => ?_, I.hidT, fun f hf => ?_, fun P hP => ?_, fun q hq => by rw [ve]; exact I.tmp q hq, by rw [List.length_set]; exact I.len, fun i sl e => ?_, fun i k o o' q e1 e2 e3 e4 => ?_, fun q hq => ⟨(I.lck q hq).1, by rw [upd_ne fun z => (I.lck q hq).1 (by rw [z]; exact hpO)]; exact (I.lck q hq).2⟩, fun a od u e => by
    by_cases h : a = p
    · rw [h, upd_same] at e; cases e
    · rw [upd_ne h] at e; exact I.nof a od u e⟩
  · by_cases h1 : a = p
    · rw [h1, upd_same]
      exact fun z => nomatch z
    · rw [upd_ne h1]
      exact I.live a ha
  · obtain ⟨h1, h2, h3, h4⟩ := I.hid q hq
    have nq : q.1 ≠ p := fun z => h4 j _ hj (by rw [z]; exact hv)
    refine ⟨by rw [upd_ne nq]; exact h1, h2, h3, fun i o e => ?_⟩
    by_cases h5 : j = i
    · subst h5
      exact h4 j _ hj
    · rw [List.getElem?_set_ne h5] at e
      exact h4 i o e
  · obtain ⟨a, b, h1⟩ := I.feeds f hf
    exact ⟨a, b, by rw [upd_ne fun z => hM (by rw [← z]; exact hf)]; exact h1⟩
  · obtain ⟨qs, h1, h2⟩ := I.tabs P hP
    refine ⟨qs, ?_, h2⟩
    rw [upd_ne fun z => ?_]
    · exact h1
    · rw [z, hx] at h1
      cases h1
  · by_cases h1 : j = i
    · subst h1
      rw [List.getElem?_set_self hlt] at e
      cases e
      exact ⟨.ref p, hv, p, rfl, hpO, .inr hB, .inr hB, ys, upd_same, by rw [ve]; exact r⟩
    · rw [List.getElem?_set_ne h1] at e
      obtain ⟨u, h2, h3⟩ := I.slots i sl e
      refine ⟨u, h2, ?_⟩
      cases sl with
      | d d =>
        show Rp (vis O _) u d
        rw [ve]
        exact h3
      | scr ns =>
        obtain ⟨a, e2, h3⟩ := h3
        refine ⟨a, e2, ?_⟩
        rw [ve]
        exact h3
      | own o =>
        obtain ⟨a, e2, ha, hb, hb2, h3⟩ := h3
        have na : a ≠ p := fun z => h1 (I.sep j i _ o p hj e hv (by rw [h2, e2, z]))
        refine ⟨a, e2, ha, hb, hb2, h3.le (by rw [ve]; exact Le.refl _) (fun _ q => by rw [upd_ne na]; exact q) fun _ q => by rw [upd_ne na]; exact q⟩
  · have n : ∀ {i : Nat} {o}, (δ.set j (some (.own (.lst es))))[i]? = some (some (Sl.own o)) → ∃ o, δ[i]? = some (some (Sl.own o)) := fun {i o} e => by
      by_cases h1 : j = i
      · subst h1
        exact ⟨_, hj⟩
      · rw [List.getElem?_set_ne h1] at e
        exact ⟨_, e⟩
    obtain ⟨o1, e1⟩ := n e1
    obtain ⟨o2, e2⟩ := n e2
    exact I.sep i k o1 o2 q e1 e2 e3 e4
/-- name.append(e), the list the frame's own -/
theorem wpS_append {x : Str} {px apos cpos : Pos} {ds : List D} (j : Nat) (hj : δ[j]? = some (some (.own (.lst ds)))) (h : wpE X Tb e δ fun d => ds.length < sizeLine ∧ R.nx (δ.set j (some (.own (.lst (ds ++ [d])))))) (hN : X.N[j]? = some x := by rfl)
    (hv : Vis X.env.scope x := by first | exact Or.inl rfl | exact Or.inr (Or.inl rfl) | exact Or.inr (Or.inr rfl)) (h1 : (x == ("__debug__" : Str)) = false := by decide) (h2 : (x == ("__classdict__" : Str)) = false := by decide)
    (hs : starEach [e] X.env = (false, eval e X.env) :: starEach [] X.env := by rfl) {hpe : ∀ {ta : TE} {t : TA}, PE X (.Name x px) ta → PA X [e] t → PE X (.Call (.Attribute (.Name x px) "append" apos) [e] [] cpos) (tBM X.K "list" rAppend ta t)}
    (hsw : swapsWith (.Call (.Attribute (.Name x px) "append" apos) [e] [] cpos) none pos.line X.env = pure false := by rfl) :
    wpS X Tb (.Expr (.Call (.Attribute (.Name x px) "append" apos) [e] [] cpos) pos) δ R := fun B O0 M Lk σ τ H I =>
  sem_s (ps_expr (hpe (pe_var hN hv h1 h2) (pa_cons pe_sem pa_nil hs)) hsw) (by
    obtain ⟨O, I⟩ := I
    obtain ⟨v, e0, p, rfl, hp, hb, hb2, xs, hx, r⟩ := I.slots j _ hj
    refine ⟨.ref p, e0, .inl ⟨rfl, _, .inl (.inl hx)⟩, h B O0 M Lk σ τ H ⟨O, I⟩ _ fun u d H' J q => ?_⟩
    obtain ⟨O', J⟩ := J
    obtain ⟨J0, ru⟩ := J.pop1
    obtain ⟨v1, e1, p1, e2, hp1, _, _, xs1, hx1, r1⟩ := J0.slots j _ hj
    have ev : V.ref p = v1 := Option.some.inj (Option.some.inj (e0.symm.trans e1))
    rw [e2] at ev
    obtain rfl : p = p1 := V.ref.inj ev
    exact ⟨p, xs1, u, rfl, rfl, hx1, by rw [r1.length]; exact q.1, _, ⟨O', J0.mutL hj e0 (r1.append (RpA.one ru))⟩, q.2⟩)
end
end DL

set_option Elab.async false
set_option linter.all false
set_option maxRecDepth 100000
set_option maxHeartbeats 2000000
/-! DL5: iteration, loops, comprehensions, any and all; a def by its body. -/
namespace DL
open PySem PySem.Spec L2

/-! ### what is walked -/
/-- J walks the data ds, while κ is held -/
def IterJ (G : Glo) (J : It) (ds : List D) (κ : List (V × D)) : Prop := ∀ B O0 M Lk O δ σ τ H, AtO G B O0 M Lk O δ σ τ H → (∀ p ∈ κ, p ∈ τ) → ∀ i,
  (i < ds.length → J.go i H ∧ ∀ x H', J.yld i H x H' → ∃ d, ds[i]? = some d ∧ AtO G B O0 M Lk O δ σ ((x, d) :: τ) H') ∧ (ds.length ≤ i → J.stop i H)
def wpI (X : Cx) (Tb : List Addr) (tg iter : Expr) (δ : Dl) (P : List D → Prop) : Prop := ∃ wi, PI X tg iter wi ∧ ∀ B O0 M Lk σ τ H, At (GX X Tb) B O0 M Lk δ σ τ H → ∀ R : It → Hp → Prop,
  (∀ J ds κ H', At (GX X Tb) B O0 M Lk δ σ (κ ++ τ) H' → IterJ (GX X Tb) J ds κ → P ds → R J H') → wi σ H R
section
variable {X : Cx} {Tb : List Addr} {δ : Dl} {tg e a b iter elt : Expr} {pos p : Pos}
theorem iterL {G : Glo} {a : Addr} {ds : List D} : IterJ G (Itl G.K a) ds [(.ref a, .list ds)] := by
  intro B O0 M Lk O δ σ τ H I hk i
  have r := I.tmp _ (hk _ List.mem_cons_self)
  obtain ⟨a', xs, e, ha, rx⟩ := Rp.list' r
  obtain rfl := V.ref.inj e
  have hS : SqL G.K H a xs := SqL.of (vis_some ha).2
  refine ⟨fun hi => ?_, fun hi => ⟨xs, hS, by rw [rx.length]; exact hi⟩⟩
  obtain ⟨v, hv, rv⟩ := rx.get (List.getElem?_eq_getElem hi)
  refine ⟨⟨xs, v, hS, hv⟩, fun x H' hy => ?_⟩
  obtain ⟨rfl, hy⟩ := hy
  have e := hy xs hS
  rw [hv] at e
  cases e
  exact ⟨_, List.getElem?_eq_getElem hi, I.push rv⟩
theorem iterT {G : Glo} {a : Addr} {ds : List D} : IterJ G (Itt G.K a) ds [(.ref a, .tuple ds)] := by
  intro B O0 M Lk O δ σ τ H I hk i
  have r := I.tmp _ (hk _ List.mem_cons_self)
  obtain ⟨a', xs, e, ha, rx⟩ := Rp.tuple' r
  obtain rfl := V.ref.inj e
  have hS : SqT G.K H a xs := SqT.of (vis_some ha).2
  refine ⟨fun hi => ?_, fun hi => ⟨xs, hS, by rw [rx.length]; exact hi⟩⟩
  obtain ⟨v, hv, rv⟩ := rx.get (List.getElem?_eq_getElem hi)
  refine ⟨⟨xs, v, hS, hv⟩, fun x H' hy => ?_⟩
  obtain ⟨rfl, hy⟩ := hy
  have e := hy xs hS
  rw [hv] at e
  cases e
  exact ⟨_, List.getElem?_eq_getElem hi, I.push rv⟩
theorem iterR {G : Glo} {lo : Int} {n : Nat} {κ : List (V × D)} : IterJ G (Itr lo n) ((List.range n).map fun i => .int (lo + (i : Nat))) κ := by
  intro B O0 M Lk O δ σ τ H I _ i
  rw [List.length_map, List.length_range]
  refine ⟨fun hi => ⟨hi, fun x H' hy => ?_⟩, fun hi => hi⟩
  obtain ⟨rfl, rfl⟩ := hy
  exact ⟨.int (lo + i), by rw [List.getElem?_map, List.getElem?_range hi]; rfl, I.push (.int _)⟩
theorem wpI_list {P : List D → Prop} (h : wpE X Tb iter δ fun d => ∃ ds, d = .list ds ∧ P ds) : wpI X Tb tg iter δ P := ⟨_, pi_list pe_sem, fun B O0 M Lk σ τ H I R q => h B O0 M Lk σ τ H I _ fun v d H' J h1 => by
  obtain ⟨ds, rfl, h1⟩ := h1
  obtain ⟨O, J⟩ := J
  obtain ⟨a, xs, rfl, ha, rx⟩ := (J.tmp _ List.mem_cons_self).list'
  exact ⟨a, rfl, ⟨xs, SqL.of (vis_some ha).2⟩, q _ _ [(.ref a, .list ds)] H' ⟨O, J⟩ iterL h1⟩⟩
theorem wpI_tup {P : List D → Prop} (h : wpE X Tb iter δ fun d => ∃ ds, d = .tuple ds ∧ P ds) : wpI X Tb tg iter δ P := ⟨_, pi_tup pe_sem, fun B O0 M Lk σ τ H I R q => h B O0 M Lk σ τ H I _ fun v d H' J h1 => by
  obtain ⟨ds, rfl, h1⟩ := h1
  obtain ⟨O, J⟩ := J
  obtain ⟨a, xs, rfl, ha, rx⟩ := (J.tmp _ List.mem_cons_self).tuple'
  exact ⟨a, rfl, ⟨xs, SqT.of (vis_some ha).2⟩, q _ _ [(.ref a, .tuple ds)] H' ⟨O, J⟩ iterT h1⟩⟩
theorem wpI_range {P : List D → Prop} (hm : X.mg "range" = none) (h : wpA X Tb [a] δ fun ds => ∃ n : Int, ds = [.int n] ∧ (-(2 ^ 62) ≤ n ∧ n < 2 ^ 62) ∧ P ((List.range n.toNat).map fun i => .int (0 + (i : Nat)))) (hg : Gl X "range" := by rfl)
    (hs : starEach [a] X.env = [(false, eval a X.env)] := by rfl) : wpI X Tb tg (.Call (.Name "range" p) [a] [] pos) δ P := ⟨_, pi_range1 hg hm pa_sem hs, fun B O0 M Lk σ τ H I R q => h B O0 M Lk σ τ H I _ fun ps H' J h1 => by
  obtain ⟨n, e, h0, h1⟩ := h1
  obtain ⟨O, J⟩ := J
  obtain ⟨J0, r⟩ := J.popA
  rw [e] at r
  obtain ⟨v, e2, rv⟩ := r.one'
  rw [e2, rv.int']
  exact ⟨n, rfl, h0.1, h0.2, q _ _ [] H' ⟨O, J0⟩ iterR h1⟩⟩
theorem wpI_range2 {P : List D → Prop} (hm : X.mg "range" = none) (h : wpA X Tb [a, b] δ fun ds => ∃ m n : Int, ds = [.int m, .int n] ∧ (-(2 ^ 62) ≤ m ∧ m < 2 ^ 62 ∧ -(2 ^ 62) ≤ n ∧ n < 2 ^ 62) ∧ P ((List.range (n - m).toNat).map fun i => .int (m + (i : Nat)))) (hg : Gl X "range" := by rfl)
    (hs : starEach [a, b] X.env = [(false, eval a X.env), (false, eval b X.env)] := by rfl) (hs2 : starEach [b] X.env = [(false, eval b X.env)] := by rfl) : wpI X Tb tg (.Call (.Name "range" p) [a, b] [] pos) δ P := ⟨_, pi_range2 hg hm pa_sem hs hs2, fun B O0 M Lk σ τ H I R q => h B O0 M Lk σ τ H I _ fun ps H' J h1 => by
  obtain ⟨m, n, e, h0, h1⟩ := h1
  obtain ⟨O, J⟩ := J
  obtain ⟨J0, r⟩ := J.popA
  rw [e] at r
  obtain ⟨v, u, e2, rv, ru⟩ := r.two'
  rw [e2, rv.int', ru.int']
  exact ⟨m, n, rfl, h0, q _ _ [] H' ⟨O, J0⟩ iterR h1⟩⟩

/-! ### for -/
theorem pg_sem : PG X tg (semG X tg) := ⟨fun pins s _ _ _ u _ I r h => h.run pins s u I r⟩
theorem At.app {G : Glo} {B : Hp} {O0 M : List Addr} {Lk : Lks} {σ : L2.St} {κ τ : List (V × D)} {H : Hp} (I : At G B O0 M Lk δ σ (κ ++ τ) H) : At G B O0 M Lk δ σ τ H := I.drops fun x hx => List.mem_append.mpr (.inr hx)
theorem wpS_for {body : List Stmt} {R : Rs} (h : wpI X Tb tg iter δ fun ds => ∃ Iv : Nat → Dl → Prop, Iv 0 δ ∧ (∀ i d δ', ds[i]? = some d → Iv i δ' → wpG X Tb tg d δ' fun δ2 => wpSs X Tb body δ2 ⟨Iv (i + 1), R.rt, R.nx, Iv (i + 1)⟩) ∧ ∀ δ', Iv ds.length δ' → R.nx δ')
    (hp : PassesOwn (model X.prog X.w) X.A X.env X.xe) (hc : X.calm = true) (hs : ∀ x, foldedSetIterable iter X.env x = pure x := by intro _; rfl) : wpS X Tb (.For tg iter body [] pos) δ R := fun B O0 M Lk σ τ H I => by
  obtain ⟨wi, hi, hw⟩ := h
  refine sem_s (ps_for hp hc hi pg_sem pss_sem hs) (hw B O0 M Lk σ τ H I _ fun J ds κ H1 I1 it h1 => ?_)
  obtain ⟨Iv, h0, hstep, hend⟩ := h1
  refine ⟨fun i m σ H => m = ds.length - i ∧ i ≤ ds.length ∧ ∃ δ', At (GX X Tb) B O0 M Lk δ' σ (κ ++ τ) H ∧ Iv i δ', ⟨_, rfl, Nat.zero_le _, δ, I1, h0⟩, fun i m σ H ⟨em, hi, δ', I2, hv⟩ => ?_⟩
  obtain ⟨O, I2⟩ := I2
  have itv := it B O0 M Lk O δ' σ (κ ++ τ) H I2 (fun p hp => List.mem_append.mpr (.inl hp)) i
  by_cases hlt : i < ds.length
  · obtain ⟨go, yl⟩ := itv.1 hlt
    refine .inr ⟨go, fun σ' H' => ∃ δ', At (GX X Tb) B O0 M Lk δ' σ' (κ ++ τ) H' ∧ Iv (i + 1) δ', fun σ' H' ⟨δ3, q1, q2⟩ => ⟨ds.length - (i + 1), by omega, rfl, hlt, δ3, q1, q2⟩, fun x H' hy => ?_⟩
    obtain ⟨d, hd, I3⟩ := yl x H' hy
    refine hstep i d δ' hd hv B O0 M Lk σ (κ ++ τ) H' x ⟨O, I3⟩ _ (fun δ2 σ2 H2 I4 q4 => ?_)
    have q5 := q4 B O0 M Lk σ2 (κ ++ τ) H2 I4
    refine semSs_le ?_ q5
    exact ⟨fun _ _ q => q, fun _ _ q => q, fun _ _ ⟨δ3, q1, q2⟩ => ⟨δ3, q1.app, q2⟩, fun _ _ q => q⟩
  · have e : i = ds.length := by omega
    subst e
    exact .inl ⟨itv.2 (Nat.le_refl _), δ', At.app (κ := κ) ⟨O, I2⟩, hend δ' hv⟩

/-! ### a list comprehension, its target a name (slot j) -/
def wipeD (δ : Dl) (j : Nat) : Dl := δ.set j none
theorem AtO.wipe {G : Glo} {B : Hp} {O0 M O : List Addr} {Lk : Lks} {σ : L2.St} {τ : List (V × D)} {H : Hp} {j : Nat} (I : AtO G B O0 M Lk O δ σ τ H) : AtO G B O0 M Lk O (wipeD δ j) (L2.wipe σ [j]) τ H := by
  have es : L2.wipe σ [j] = σ.set j none := rfl
  rw [es]
  unfold wipeD
  have get : ∀ {i : Nat} {sl : Sl}, (δ.set j none)[i]? = some (some sl) → j ≠ i ∧ δ[i]? = some (some sl) := fun {i sl} e => by
    by_cases h : j = i
    · subst h
      have hlt : j < δ.length := by
        have := (List.getElem?_eq_some_iff.mp e).1
        rwa [List.length_set] at this
      rw [List.getElem?_set_self hlt] at e
      cases e
    · rw [List.getElem?_set_ne h] at e
      exact ⟨h, e⟩
  refine ⟨I.sub0, I.subM, I.o0, I.new, I.live, I.gr, fun p hp => ⟨(I.hid p hp).1, (I.hid p hp).2.1, (I.hid p hp).2.2.1, fun i o e => ?_⟩, I.hidT, I.feeds, I.tabs, I.tmp, by rw [List.length_set, List.length_set]; exact I.len, fun i sl e => ?_, fun i k o o' q e1 e2 e3 e4 => ?_, I.lck, I.nof⟩
  · obtain ⟨n, e⟩ := get e
    rw [List.getElem?_set_ne n]
    exact (I.hid p hp).2.2.2 i o e
  · obtain ⟨n, e⟩ := get e
    obtain ⟨u, h1, h2⟩ := I.slots i sl e
    exact ⟨u, by rw [List.getElem?_set_ne n]; exact h1, h2⟩
  · obtain ⟨n1, e1⟩ := get e1
    obtain ⟨n2, e2⟩ := get e2
    rw [List.getElem?_set_ne n1] at e3
    rw [List.getElem?_set_ne n2] at e4
    exact I.sep i k o o' q e1 e2 e3 e4
/-- a new object that no slot holds is hidden -/
theorem AtO.hide {G : Glo} {B : Hp} {O0 M O : List Addr} {Lk : Lks} {σ : L2.St} {τ : List (V × D)} {H : Hp} {q : Addr} {ob : HO} (I : AtO G B O0 M Lk O δ σ τ H) (hq : H q = none) (hob : ∀ ps, ob ≠ .tbl ps := by exact fun _ z => nomatch z) (hof : ∀ od u, ob ≠ .frz od u := by exact fun _ _ z => nomatch z) :
    AtO G B O0 M (Lk.1, (q, ob) :: Lk.2) (q :: O) δ σ τ (upd H q (ob)) ∧ vis (q :: O) (upd H q (ob)) = vis O H ∧ B q = none := by
  obtain ⟨J, hn⟩ := I.alloc (o := ob) hq hof
  have hB : B q = none := by
    cases e : B q with
    | none => rfl
    | some u =>
      have hM : q ∉ M := fun z => hn (I.sub0 _ (I.subM _ z))
      rcases I.gr q u hM e with h | ⟨_, _, _, h, _⟩ | ⟨_, _, h⟩ <;> rw [hq] at h <;> cases h
  have ve : vis (q :: O) (upd H q (ob)) = vis O H := by
    funext a
    by_cases ha : a = q
    · subst ha
      rw [vis_in List.mem_cons_self, vis_out hn, hq]
    · by_cases ho : a ∈ O
      · rw [vis_in (List.mem_cons_of_mem _ ho), vis_in ho]
      · rw [vis_out (by simp [ha, ho]), vis_out ho, upd_ne ha]
  refine ⟨⟨fun p hp => List.mem_cons_of_mem _ (I.sub0 p hp), I.subM, I.o0, fun p hp => ?_, fun p hp => ?_, J.gr, fun p hp => ?_, fun p hp ps => ?_, J.feeds, J.tabs, fun p hp => by rw [ve]; exact I.tmp p hp, I.len, fun i sl e => ?_, I.sep, fun p hp => ⟨fun z => (List.mem_cons.mp z).elim (fun z => by have h := (I.lck p hp).2; rw [z, hq] at h; cases h) (I.lck p hp).1, by rw [upd_ne fun z => by have h := (I.lck p hp).2; rw [z, hq] at h; cases h]; exact (I.lck p hp).2⟩, J.nof⟩, ve, hB⟩
  · rcases List.mem_cons.mp hp with e | hp
    · exact .inr (by rw [e]; exact hB)
    · exact I.new p hp
  · rcases List.mem_cons.mp hp with e | hp
    · rw [e, upd_same]
      exact fun z => nomatch z
    · exact J.live p hp
  · rcases List.mem_cons.mp hp with e | hp
    · rw [e]
      refine ⟨upd_same, List.mem_cons_self, hB, fun i o e2 z => ?_⟩
      obtain ⟨v, h1, a, rfl, h2, _⟩ := I.slots i _ e2
      rw [z] at h1
      have ea : q = a := V.ref.inj (Option.some.inj (Option.some.inj h1))
      exact hn (by rw [ea]; exact h2)
    · obtain ⟨h1, h2, h3, h4⟩ := I.hid p hp
      exact ⟨by rw [upd_ne fun z => hn (by rw [← z]; exact h2)]; exact h1, List.mem_cons_of_mem _ h2, h3, h4⟩
  · rcases List.mem_cons.mp hp with e | hp
    · rw [e]
      exact hob ps
    · exact I.hidT p hp ps
  · obtain ⟨u, h1, h2⟩ := I.slots i sl e
    refine ⟨u, h1, ?_⟩
    cases sl with
    | d d =>
      show Rp (vis (q :: O) _) u d
      rw [ve]
      exact h2
    | scr ns =>
      obtain ⟨a, e2, h2⟩ := h2
      refine ⟨a, e2, ?_⟩
      rw [ve]
      exact h2
    | own o =>
      obtain ⟨p, e2, hp, hb, hb2, h2⟩ := h2
      refine ⟨p, e2, List.mem_cons_of_mem _ hp, hb, hb2, ?_⟩
      have np : p ≠ q := fun z => hn (by rw [← z]; exact hp)
      cases o with
      | feed => obtain ⟨a, b, h2⟩ := h2; exact ⟨a, b, by rw [upd_ne np]; exact h2⟩
      | lst ds => obtain ⟨ys, h2, h3⟩ := h2; exact ⟨ys, by rw [upd_ne np]; exact h2, by rw [ve]; exact h3⟩
      | dic ks => obtain ⟨ys, h2, h4, h3⟩ := h2; exact ⟨ys, by rw [upd_ne np]; exact h2, h4, by rw [ve]; exact h3⟩
/-- a hidden object changes -/
theorem AtO.turn {G : Glo} {B : Hp} {O0 M O : List Addr} {Lk1 : List (Addr × Obj × HO)} {hs : List (Addr × HO)} {σ : L2.St} {τ : List (V × D)} {H : Hp} {q : Addr} {ob ob' : HO} (I : AtO G B O0 M (Lk1, (q, ob) :: hs) O δ σ τ H) (hd : ∀ p ∈ hs, p.1 ≠ q) (hob : ∀ ps, ob' ≠ .tbl ps := by exact fun _ z => nomatch z) (hof : ∀ od u, ob' ≠ .frz od u := by exact fun _ _ z => nomatch z) :
    AtO G B O0 M (Lk1, (q, ob') :: hs) O δ σ τ (upd H q (ob')) ∧ vis O (upd H q (ob')) = vis O H := by
  obtain ⟨h1, h2, h3, h4⟩ := I.hid _ List.mem_cons_self
  have ve : vis O (upd H q (ob')) = vis O H := le_mut h2
  have hM : q ∉ M := fun z => I.o0 q (I.subM q z) h3
  refine ⟨⟨I.sub0, I.subM, I.o0, I.new, fun a ha => ?_, I.gr.mut (.inr h3), fun p hp => ?_, fun p hp ps => ?_, fun f hf => ?_, fun P hP => ?_, fun p hp => by rw [ve]; exact I.tmp p hp, I.len, fun i sl e => ?_, I.sep, fun p hp => ⟨(I.lck p hp).1, by rw [upd_ne fun z => (I.lck p hp).1 (by rw [z]; exact h2)]; exact (I.lck p hp).2⟩, fun a od u e => by
    by_cases h : a = q
    · rw [h, upd_same] at e; exact absurd (Option.some.inj e) (hof od u)
    · rw [upd_ne h] at e; exact I.nof a od u e⟩, ve⟩
  · by_cases h5 : a = q
    · rw [h5, upd_same]
      exact fun z => nomatch z
    · rw [upd_ne h5]
      exact I.live a ha
  · rcases List.mem_cons.mp hp with e | hp
    · rw [e]
      exact ⟨upd_same, h2, h3, h4⟩
    · obtain ⟨g1, g2, g3, g4⟩ := I.hid p (List.mem_cons_of_mem _ hp)
      exact ⟨by rw [upd_ne (hd p hp)]; exact g1, g2, g3, g4⟩
  · rcases List.mem_cons.mp hp with e | hp
    · rw [e]
      exact hob ps
    · exact I.hidT p (List.mem_cons_of_mem _ hp) ps
  · obtain ⟨a, b, g⟩ := I.feeds f hf
    exact ⟨a, b, by rw [upd_ne fun z => hM (by rw [← z]; exact hf)]; exact g⟩
  · obtain ⟨qs, g1, g2⟩ := I.tabs P hP
    refine ⟨qs, ?_, g2⟩
    rw [upd_ne fun z => ?_]
    · exact g1
    · rw [z] at g1
      exact I.hidT _ List.mem_cons_self qs (Option.some.inj (h1.symm.trans g1))
  · obtain ⟨u, g1, g2⟩ := I.slots i sl e
    refine ⟨u, g1, ?_⟩
    cases sl with
    | d d =>
      show Rp (vis O _) u d
      rw [ve]
      exact g2
    | scr ns =>
      obtain ⟨a, e2, g2⟩ := g2
      refine ⟨a, e2, ?_⟩
      rw [ve]
      exact g2
    | own o =>
      obtain ⟨a, e2, ha, hb, hb2, g3⟩ := g2
      have na : a ≠ q := fun z => h4 i o e (by rw [g1, e2, z])
      exact ⟨a, e2, ha, hb, hb2, g3.le (by rw [ve]; exact Le.refl _) (fun _ q => by rw [upd_ne na]; exact q) fun _ q => by rw [upd_ne na]; exact q⟩
/-- it is shown -/
theorem AtO.show' {G : Glo} {B : Hp} {O0 M O : List Addr} {Lk1 : List (Addr × Obj × HO)} {hs : List (Addr × HO)} {σ : L2.St} {τ : List (V × D)} {H : Hp} {q : Addr} {ob : HO} (I : AtO G B O0 M (Lk1, (q, ob) :: hs) O δ σ τ H) (hd : ∀ p ∈ hs, p.1 ≠ q) :
    ∃ O', AtO G B O0 M (Lk1, hs) O' δ σ τ H ∧ Le (vis O H) (vis O' H) ∧ vis O' H q = some ob := by
  obtain ⟨h1, h2, h3, h4⟩ := I.hid _ List.mem_cons_self
  have memO : ∀ {a}, a ∈ O.filter (fun a => decide (a ≠ q)) ↔ a ∈ O ∧ a ≠ q := fun {a} => by simp
  have le : Le (vis O H) (vis (O.filter (fun a => decide (a ≠ q))) H) := vis_le fun a ha => (memO.mp ha).1
  refine ⟨O.filter (fun a => decide (a ≠ q)), ⟨fun a ha => memO.mpr ⟨I.sub0 a ha, fun z => I.o0 a ha (by rw [z]; exact h3)⟩, I.subM, I.o0, fun a ha => I.new a (memO.mp ha).1, fun a ha => I.live a (memO.mp ha).1, I.gr, fun p hp => ?_, fun p hp => I.hidT p (List.mem_cons_of_mem _ hp), I.feeds, I.tabs, fun p hp => ?_, I.len, fun i sl e => ?_, I.sep, fun p hp => ⟨fun z => (I.lck p hp).1 (memO.mp z).1, (I.lck p hp).2⟩, I.nof⟩, le, by rw [vis_out fun z => (memO.mp z).2 rfl]; exact h1⟩
  · obtain ⟨g1, g2, g3, g4⟩ := I.hid p (List.mem_cons_of_mem _ hp)
    exact ⟨g1, memO.mpr ⟨g2, hd p hp⟩, g3, g4⟩
  · exact (I.tmp p hp).mono le
  · obtain ⟨u, g1, g2⟩ := I.slots i sl e
    refine ⟨u, g1, ?_⟩
    cases sl with
    | d d => exact Rp.mono le g2
    | scr ns => obtain ⟨a, e2, g2⟩ := g2; exact ⟨a, e2, ex_seq le g2⟩
    | own o =>
      obtain ⟨a, e2, ha, hb, hb2, g3⟩ := g2
      have na : a ≠ q := fun z => h4 i o e (by rw [g1, e2, z])
      refine ⟨a, e2, memO.mpr ⟨ha, na⟩, hb, hb2, ?_⟩
      cases o with
      | feed => exact g3
      | lst ds => obtain ⟨zs, g4, g5⟩ := g3; exact ⟨zs, g4, g5.mono le⟩
      | dic ks => obtain ⟨zs, g4, g6, g5⟩ := g3; exact ⟨zs, g4, g6, g5.mono le⟩
end
end DL

set_option Elab.async false
set_option linter.all false
set_option maxRecDepth 100000
set_option maxHeartbeats 2000000
/-! DL6: list comprehensions, any and all; a def by its body. -/
namespace DL
open PySem PySem.Spec L2

section
variable {X : Cx} {Tb : List Addr} {δ : Dl} {tg e a b iter elt : Expr} {pos p : Pos}
abbrev blkX (X : Cx) (z : Shared) (H : Hp) (scope : Scope) (C : Addr) (cl : List (Str × Addr)) (fp : List Addr) : Cx := X.blk z H scope (compEnvC scope cl C X.env) fp
theorem AtO.unset {G : Glo} {B : Hp} {O0 M O : List Addr} {Lk : Lks} {σ σ' : L2.St} {τ : List (V × D)} {H : Hp} {j : Nat} {sl : Sl} (hj : δ[j]? = some none) (hl : σ'.length = σ.length) (hσ : ∀ i, i ≠ j → σ'[i]? = σ[i]?) (I : AtO G B O0 M Lk O (δ.set j (some sl)) σ' τ H) : AtO G B O0 M Lk O δ σ τ H := by
  have get : ∀ {i : Nat} {s : Sl}, δ[i]? = some (some s) → i ≠ j ∧ (δ.set j (some sl))[i]? = some (some s) := fun {i s} e => by
    have n : i ≠ j := fun z => by
      rw [z, hj] at e
      cases e
    exact ⟨n, by rw [List.getElem?_set_ne (Ne.symm n)]; exact e⟩
  refine ⟨I.sub0, I.subM, I.o0, I.new, I.live, I.gr, fun p hp => ⟨(I.hid p hp).1, (I.hid p hp).2.1, (I.hid p hp).2.2.1, fun i o e => ?_⟩, I.hidT, I.feeds, I.tabs, I.tmp, by rw [← hl, ← I.len, List.length_set], fun i s e => ?_, fun i k o o' q e1 e2 e3 e4 => ?_, I.lck, I.nof⟩
  · obtain ⟨n, e⟩ := get e
    rw [← hσ i n]
    exact (I.hid p hp).2.2.2 i o e
  · obtain ⟨n, e⟩ := get e
    obtain ⟨u, h1, h2⟩ := I.slots i s e
    exact ⟨u, by rw [← hσ i n]; exact h1, h2⟩
  · obtain ⟨n1, e1⟩ := get e1
    obtain ⟨n2, e2⟩ := get e2
    rw [← hσ _ n1] at e3
    rw [← hσ _ n2] at e4
    exact I.sep i k o o' q e1 e2 e3 e4
def lcT (X : Cx) (scope : Scope) : Option Expr → TT
  | none => tYes
  | some t => fun σ H' Q => ∀ z H C cl fp, semT (blkX X z H scope C cl fp) t σ H' Q
abbrev LcG (X : Cx) (Tb : List Addr) (scope : Scope) (elt : Expr) (δ : Dl) (j : Nat) (c : Option Expr) (P : D → Prop) (ds : List D) : Prop := ds.length < sizeLine ∧ ∃ Iv : Nat → List D → Prop, Iv 0 [] ∧ (∀ i d acc, ds[i]? = some d → Iv i acc →
      match c with
      | none => ∀ z H C cl fp, wpE (blkX X z H scope C cl fp) Tb elt (δ.set j (some (.d d))) fun y => Iv (i + 1) (acc ++ [y])
      | some t => ∃ T : Bool → Prop, (∀ z H C cl fp, wpT (blkX X z H scope C cl fp) Tb t (δ.set j (some (.d d))) T) ∧ (T true → ∀ z H C cl fp, wpE (blkX X z H scope C cl fp) Tb elt (δ.set j (some (.d d))) fun y => Iv (i + 1) (acc ++ [y])) ∧ (T false → Iv (i + 1) acc)) ∧
      ∀ acc, Iv ds.length acc → P (.list acc)
theorem lc_q {scope : Scope} {P : D → Prop} {c : Option Expr} {x : Str} {wi : TI} (j : Nat) (hj : δ[j]? = some none)
    (hw : ∀ B O0 M Lk σ τ H, At (GX X Tb) B O0 M Lk δ σ τ H → ∀ R : It → Hp → Prop, (∀ J ds κ H', At (GX X Tb) B O0 M Lk δ σ (κ ++ τ) H' → IterJ (GX X Tb) J ds κ → LcG X Tb scope elt δ j c P ds → R J H') → wi σ H R)
    {B : Hp} {O0 M : List Addr} {Lk : Lks} {σ : L2.St} {τ : List (V × D)} {H : Hp} (I : At (GX X Tb) B O0 M Lk δ σ τ H) {Q : VK} (q : ∀ v d H', At (GX X Tb) B O0 M Lk δ σ ((v, d) :: τ) H' → P d → Q v H') :
    tLc wi (gName j) (lcT X scope c) (fun σ H' Q => ∀ z H C cl fp, semE (blkX X z H scope C cl fp) elt σ H' Q) ([(x, j)].map (·.2)) σ H Q := by
  refine hw B O0 M Lk σ τ H I _ fun J ds κ H1 I1 it h1 => ?_
  obtain ⟨hlen, Iv, h0, hstep, hend⟩ := h1
  obtain ⟨O, I1⟩ := I1
  intro L hL
  obtain ⟨I2, ve, hBL⟩ := I1.hide (q := L) (ob := .lst []) hL
  have noh : ∀ p ∈ Lk.2, p.1 ≠ L := fun p hp z => by
    have := (I1.hid p hp).1
    rw [z, hL] at this
    cases this
  refine ⟨fun i m H => m = ds.length - i ∧ i ≤ ds.length ∧ ∃ ps : List (V × D), At (GX X Tb) B O0 M (Lk.1, (L, .lst (ps.map (·.1))) :: Lk.2) δ σ (ps ++ (κ ++ τ)) H ∧ ps.length ≤ i ∧ Iv i (ps.map (·.2)), ⟨_, rfl, Nat.zero_le _, [], ⟨_, I2⟩, Nat.le_refl _, h0⟩, fun i m H ⟨em, hi, ps, ⟨O, I3⟩, hal, hv⟩ => ?_⟩
  have itv := it B O0 M _ O δ σ (ps ++ (κ ++ τ)) H I3 (fun p hp => List.mem_append.mpr (.inr (List.mem_append.mpr (.inl hp)))) i
  by_cases hlt : i < ds.length
  · obtain ⟨go, yl⟩ := itv.1 hlt
    refine .inr ⟨go, fun H' => ∃ ps : List (V × D), At (GX X Tb) B O0 M (Lk.1, (L, .lst (ps.map (·.1))) :: Lk.2) δ σ (ps ++ (κ ++ τ)) H' ∧ ps.length ≤ i + 1 ∧ Iv (i + 1) (ps.map (·.2)), fun H' q1 => ⟨ds.length - (i + 1), by omega, rfl, hlt, q1⟩, fun v H' hy => ?_⟩
    obtain ⟨d, hd, I4⟩ := yl v H' hy
    obtain ⟨I5, rv⟩ := I4.pop1
    have ew : ∀ u, L2.wipe ((L2.wipe σ [j]).set j (some u)) [j] = L2.wipe σ [j] := fun u => by
      show ((σ.set j none).set j (some u)).set j none = σ.set j none
      rw [List.set_set, List.set_set]
    have eσ : ∀ u : Option V, List.set (L2.wipe σ (List.map (fun x => x.2) [(x, j)])) j u = σ.set j u := fun u => by
      show (σ.set j none).set j u = σ.set j u
      rw [List.set_set]
    refine ⟨ew v, ?_⟩
    rw [eσ]
    have I6 := I5.set (j := j) rv
    have back : ∀ {O : List Addr} {τ' : List (V × D)} {H4 : Hp}, AtO (GX X Tb) B O0 M (Lk.1, (L, .lst (ps.map (·.1))) :: Lk.2) O (δ.set j (some (.d d))) (σ.set j (some v)) τ' H4 → AtO (GX X Tb) B O0 M (Lk.1, (L, .lst (ps.map (·.1))) :: Lk.2) O δ σ τ' H4 := fun I =>
      I.unset hj (by rw [List.length_set]) fun i n => by rw [List.getElem?_set_ne (Ne.symm n)]
    have fin : ∀ {y : V} {dy : D} {H4 : Hp}, At (GX X Tb) B O0 M (Lk.1, (L, .lst (ps.map (·.1))) :: Lk.2) (δ.set j (some (.d d))) (σ.set j (some v)) ((y, dy) :: (ps ++ (κ ++ τ))) H4 → Iv (i + 1) (ps.map (·.2) ++ [dy]) →
        ∃ acc, H4 L = some (.lst acc) ∧ acc.length < sizeLine ∧ ∃ ps : List (V × D), At (GX X Tb) B O0 M (Lk.1, (L, .lst (ps.map (·.1))) :: Lk.2) δ σ (ps ++ (κ ++ τ)) (upd H4 L (.lst (acc ++ [y]))) ∧ ps.length ≤ i + 1 ∧ Iv (i + 1) (ps.map (·.2)) := fun {y dy H4} ⟨O4, I7⟩ hq => by
      have I8 := back I7
      refine ⟨_, (I8.hid _ List.mem_cons_self).1, ?_, ps ++ [(y, dy)], ?_, ?_, ?_⟩
      · rw [List.length_map]
        exact Nat.lt_of_le_of_lt (Nat.le_trans hal hi) hlen
      · obtain ⟨I9, _⟩ := I8.turn (ob' := .lst (ps.map (·.1) ++ [y])) noh
        rw [List.map_append]
        refine ⟨O4, I9.drops fun p hp => ?_⟩
        simp only [List.append_assoc, List.mem_append, List.mem_cons, List.cons_append, List.nil_append] at hp ⊢
        rcases hp with h | h | h
        · exact .inr (.inl h)
        · exact .inl h
        · exact .inr (.inr h)
      · rw [List.length_append]
        exact Nat.succ_le_succ hal
      · rw [List.map_append]
        exact hq
    have st := hstep i d _ hd hv
    cases c with
    | none => exact fun z H C cl fp => st z H C cl fp B O0 M _ _ _ _ ⟨O, I6⟩ _ fun y dy H4 I7 hq => fin I7 hq
    | some t =>
      obtain ⟨T, t1, t2, t3⟩ := st
      intro z H C cl fp
      refine t1 z H C cl fp B O0 M _ _ _ _ ⟨O, I6⟩ _ fun k H3 I7 hq => ?_
      cases k with
      | true => exact fun z H C cl fp => t2 hq z H C cl fp B O0 M _ _ _ _ I7 _ fun y dy H4 I8 hq => fin I8 hq
      | false =>
        obtain ⟨O4, I7⟩ := I7
        exact ⟨ps, ⟨O4, back I7⟩, Nat.le_succ_of_le hal, t3 hq⟩
  · have e : i = ds.length := by omega
    subst e
    obtain ⟨O', I5, le, eL⟩ := I3.show' noh
    refine .inl ⟨itv.2 (Nat.le_refl _), q _ _ _ ⟨O', (I5.drops (τ' := τ) fun p hp => ?_).push (.lst eL (rpA_of fun p hp => I5.tmp p (List.mem_append.mpr (.inl hp))))⟩ (hend _ hv)⟩
    exact List.mem_append.mpr (.inr (List.mem_append.mpr (.inr hp)))
/-- [elt for x in iter if c ..]: Iv by the number of items taken and the list made -/
theorem wpE_lc {x : Str} {px : Pos} {ifs : List Expr} {scope : Scope} {P : D → Prop} {c : Option Expr} (j : Nat) (hj : δ[j]? = some none)
    (h : wpI X Tb (.Name x px) iter δ fun ds => ds.length < sizeLine ∧ ∃ Iv : Nat → List D → Prop, Iv 0 [] ∧ (∀ i d acc, ds[i]? = some d → Iv i acc →
      match c with
      | none => ∀ z H C cl fp, wpE (blkX X z H scope C cl fp) Tb elt (δ.set j (some (.d d))) fun y => Iv (i + 1) (acc ++ [y])
      | some t => ∃ T : Bool → Prop, (∀ z H C cl fp, wpT (blkX X z H scope C cl fp) Tb t (δ.set j (some (.d d))) T) ∧ (T true → ∀ z H C cl fp, wpE (blkX X z H scope C cl fp) Tb elt (δ.set j (some (.d d))) fun y => Iv (i + 1) (acc ++ [y])) ∧ (T false → Iv (i + 1) acc)) ∧
      ∀ acc, Iv ds.length acc → P (.list acc))
    (hc : X.calm = true) (hN : X.N.Nodup) (ok : BlkOk X.N X.env.scope scope [(x, j)]) (hifs : ifs = c.toList) (hi : X.N[j]? = some x := by rfl) (hloc : ∀ C cl, Loc (compEnvC scope cl C X.env).scope x := by intro _ _; first | exact Or.inl rfl | exact Or.inr rfl)
    (hlo : ∀ C cl, (compEnvC scope cl C X.env).scope.names.lookup x = some .local := by intro _ _; rfl)
    (hs : ∀ x, foldedSetIterable iter X.env x = pure x := by intro _; rfl) : wpE X Tb (.ListComp elt [⟨.Name x px, iter, ifs, 0⟩] scope pos) δ P := fun B O0 M Lk σ τ H I Q q => by
  obtain ⟨wi, hwi, hw⟩ := h
  have gtr : ∀ (z : Shared) (H : Hp) (C : Addr) (cl : List (Str × Addr)) (fp : List Addr), PG (X.blk z H scope (compEnvC scope cl C X.env) fp) (.Name x px) (gName j) := fun z H C cl fp => pg_name hN hi (hloc C cl) (.inr (hlo C cl))
  have etr : ∀ (z : Shared) (H : Hp) (C : Addr) (cl : List (Str × Addr)) (fp : List Addr), PE (X.blk z H scope (compEnvC scope cl C X.env) fp) elt (fun σ H' Q => ∀ z H C cl fp, semE (blkX X z H scope C cl fp) elt σ H' Q) := fun z H C cl fp => ⟨fun pins s σ H' Q I h => (h z H C cl fp).run pins s I⟩
  have ttr : ∀ (z : Shared) (H : Hp) (C : Addr) (cl : List (Str × Addr)) (fp : List Addr), PTs (X.blk z H scope (compEnvC scope cl C X.env) fp) ifs (lcT X scope c) := fun z H C cl fp => by
    subst hifs
    cases c with
    | none => exact pts_nil
    | some t => exact pts_one ⟨fun pins s σ H' Q I h => (h z H C cl fp).run pins s I⟩
  exact sem_e (pe_lc hc hN hwi ok gtr ttr etr hs) (lc_q j hj hw I q)
/-- name = [elt for x in iter if c ..] -/
theorem wpS_setLc {R : Rs} {x y : Str} {px py : Pos} {spos : Pos} {ifs : List Expr} {scope : Scope} {c : Option Expr} (jy j : Nat) (hj : δ[j]? = some none)
    (h : wpI X Tb (.Name x px) iter δ (LcG X Tb scope elt δ j c fun d => R.nx (δ.set jy (some (.d d)))))
    (hc : X.calm = true) (hN : X.N.Nodup) (ok : BlkOk X.N X.env.scope scope [(x, j)]) (hifs : ifs = c.toList) (hi : X.N[j]? = some x := by rfl) (hloc : ∀ C cl, Loc (compEnvC scope cl C X.env).scope x := by intro _ _; first | exact Or.inl rfl | exact Or.inr rfl)
    (hlo : ∀ C cl, (compEnvC scope cl C X.env).scope.names.lookup x = some .local := by intro _ _; rfl)
    (hs : ∀ x, foldedSetIterable iter X.env x = pure x := by intro _; rfl) (hy : X.N[jy]? = some y := by rfl) (hyl : X.env.scope.names.lookup y = some .local := by rfl) (hsw : swapsWith (.ListComp elt [⟨.Name x px, iter, ifs, 0⟩] scope pos) (some (.Name y py)) spos.line X.env = pure true := by rfl) : wpS X Tb (.Assign [.Name y py] (.ListComp elt [⟨.Name x px, iter, ifs, 0⟩] scope pos) spos) δ R := fun B O0 M Lk σ τ H I => by
  obtain ⟨wi, hwi, hw⟩ := h
  have gtr : ∀ (z : Shared) (H : Hp) (C : Addr) (cl : List (Str × Addr)) (fp : List Addr), PG (X.blk z H scope (compEnvC scope cl C X.env) fp) (.Name x px) (gName j) := fun z H C cl fp => pg_name hN hi (hloc C cl) (.inr (hlo C cl))
  have etr : ∀ (z : Shared) (H : Hp) (C : Addr) (cl : List (Str × Addr)) (fp : List Addr), PE (X.blk z H scope (compEnvC scope cl C X.env) fp) elt (fun σ H' Q => ∀ z H C cl fp, semE (blkX X z H scope C cl fp) elt σ H' Q) := fun z H C cl fp => ⟨fun pins s σ H' Q I h => (h z H C cl fp).run pins s I⟩
  have ttr : ∀ (z : Shared) (H : Hp) (C : Addr) (cl : List (Str × Addr)) (fp : List Addr), PTs (X.blk z H scope (compEnvC scope cl C X.env) fp) ifs (lcT X scope c) := fun z H C cl fp => by
    subst hifs
    cases c with
    | none => exact pts_nil
    | some t => exact pts_one ⟨fun pins s σ H' Q I h => (h z H C cl fp).run pins s I⟩
  refine sem_s (ps_setLc hc hN hy hyl hsw hwi ok gtr ttr etr hs) (lc_q (P := fun d => R.nx (δ.set jy (some (.d d)))) j hj hw I fun v d H' J h => ?_)
  obtain ⟨O, J⟩ := J
  obtain ⟨J0, rv⟩ := J.pop1
  exact ⟨_, ⟨O, J0.set (j := jy) rv⟩, h⟩

/-! ### any, all -/
theorem AtO.front {G : Glo} {B : Hp} {O0 M O : List Addr} {Lk : Lks} {σ : L2.St} {τ : List (V × D)} {H : Hp} {v : V} {d : D} (I : AtO G B O0 M Lk O δ σ τ H) (r : Rp (vis O H) v d) : AtO G B O0 M Lk O (some (.d d) :: δ) (some v :: σ) τ H := by
  refine ⟨I.sub0, I.subM, I.o0, I.new, I.live, I.gr, fun p hp => ⟨(I.hid p hp).1, (I.hid p hp).2.1, (I.hid p hp).2.2.1, fun i o e => ?_⟩, I.hidT, I.feeds, I.tabs, I.tmp, by rw [List.length_cons, List.length_cons, I.len], fun i sl e => ?_, fun i k o o' q e1 e2 e3 e4 => ?_, I.lck, I.nof⟩
  · cases i with
    | zero => cases e
    | succ i => exact (I.hid p hp).2.2.2 i o e
  · cases i with
    | zero =>
      cases e
      exact ⟨v, rfl, r⟩
    | succ i => exact I.slots i sl e
  · cases i with
    | zero => cases e1
    | succ i =>
      cases k with
      | zero => cases e2
      | succ k => rw [I.sep i k o o' q e1 e2 e3 e4]
theorem AtO.back {G : Glo} {B : Hp} {O0 M O : List Addr} {Lk : Lks} {σ : L2.St} {τ : List (V × D)} {H : Hp} {s : Option Sl} {u : Option V} (I : AtO G B O0 M Lk O (s :: δ) (u :: σ) τ H) : AtO G B O0 M Lk O δ σ τ H :=
  ⟨I.sub0, I.subM, I.o0, I.new, I.live, I.gr, fun p hp => ⟨(I.hid p hp).1, (I.hid p hp).2.1, (I.hid p hp).2.2.1, fun i o e => (I.hid p hp).2.2.2 (i + 1) o e⟩, I.hidT, I.feeds, I.tabs, I.tmp, Nat.succ.inj I.len, fun i sl e => I.slots (i + 1) sl e, fun i k o o' q e1 e2 e3 e4 => Nat.succ.inj (I.sep (i + 1) (k + 1) o o' q e1 e2 e3 e4), I.lck, I.nof⟩
theorem tabbed_gr {P : Addr} {H1 H2 : Hp} (h : GxR.TabG H1 P) (t : GxR.Tabbed P H1 H2) : Gr [] [] H1 H2 := fun a o _ e => by
  by_cases ha : a = P
  · obtain ⟨ps, e1, _⟩ := h
    obtain ⟨⟨ps', e2, t2⟩, _⟩ := t
    rw [ha, e1] at e
    cases e
    exact .inr (.inl ⟨ps, ps', rfl, by rw [ha]; exact e2, t2⟩)
  · exact .inl (by rw [t.2 a ha]; exact e)
theorem tabbed_nf {P : Addr} {H1 H2 : Hp} (h : GxR.TabG H1 P) (t : GxR.Tabbed P H1 H2) : Nf H1 H2 := fun a od u e => by
  by_cases ha : a = P
  · obtain ⟨ps, h, _⟩ := h
    rw [ha, h]
    exact fun z => nomatch z
  · rw [t.2 a ha] at e
    rw [e]
    exact fun z => nomatch z
abbrev gX (X : Cx) (x : Str) (scope : Scope) (z : Shared) (H : Hp) (code : Value) (C : Addr) (fp : List Addr) (A' : Around) : Cx := GX.genX X x z H (GX.gEnv X scope code C) fp A'
/-- what is to be shown of any (sb: true), all (sb: false) over the items ds -/
def AnyAll (X : Cx) (Tb : List Addr) (k : Nat) (x : Str) (scope : Scope) (elt : Expr) (δ : Dl) (sb : Bool) (P : D → Prop) (ds : List D) : Prop := ∃ Iv : Nat → Prop, Iv 0 ∧
  (∀ i d, ds[i]? = some d → Iv i → ∀ z H code C fp A', Room k A' → wpE (gX X x scope z H code C fp A') Tb elt (some (.d d) :: δ) fun y => ∃ b, y = .bool b ∧ if b = sb then P (.bool sb) else Iv (i + 1)) ∧ (Iv ds.length → P (.bool (!sb)))
theorem tgen_of {x : Str} {scope : Scope} {P : D → Prop} {k : Nat} {sb : Bool} {Pt : Addr} {wi : TI} (hP : Pt ∈ Tb)
    (hw : ∀ B O0 M Lk σ τ H, At (GX X Tb) B O0 M Lk δ σ τ H → ∀ R : It → Hp → Prop, (∀ J ds κ H', At (GX X Tb) B O0 M Lk δ σ (κ ++ τ) H' → IterJ (GX X Tb) J ds κ → AnyAll X Tb k x scope elt δ sb P ds → R J H') → wi σ H R)
    {B : Hp} {O0 M : List Addr} {Lk : Lks} {σ : L2.St} {τ : List (V × D)} {H : Hp} (I : At (GX X Tb) B O0 M Lk δ σ τ H) {Q : VK} (q : ∀ v d H', At (GX X Tb) B O0 M Lk δ σ ((v, d) :: τ) H' → P d → Q v H') :
    GX.tGen sb Pt wi (gName 0) (fun σ H' Q => ∀ z H code C fp A', Room k A' → semE (gX X x scope z H code C fp A') elt σ H' Q) σ H Q := by
  refine hw B O0 M Lk σ τ H I _ fun J ds κ H1 I1 it ⟨Iv, h0, hstep, hend⟩ => ?_
  obtain ⟨O, I1⟩ := I1
  have hT := I1.tabs Pt hP
  refine ⟨hT, fun H2 ht => ⟨fun i m H => m = ds.length - i ∧ i ≤ ds.length ∧ At (GX X Tb) B O0 M Lk δ σ (κ ++ τ) H ∧ Iv i, ⟨_, rfl, Nat.zero_le _, At.grow0 ⟨O, I1⟩ (tabbed_gr hT ht) (tabbed_nf hT ht), h0⟩, fun i m H3 ⟨em, hi, ⟨O3, I3⟩, hv⟩ => ?_⟩⟩
  have itv := it B O0 M Lk O3 δ σ (κ ++ τ) H3 I3 (fun p hp => List.mem_append.mpr (.inl hp)) i
  by_cases hlt : i < ds.length
  · obtain ⟨go, yl⟩ := itv.1 hlt
    refine .inr ⟨go, fun y H4 hy o => ⟨⟨some y, rfl⟩, fun z H code C fp A' hr => ?_⟩⟩
    obtain ⟨d, hd, I4⟩ := yl y H4 hy
    obtain ⟨I5, rv⟩ := I4.pop1
    refine hstep i d hd hv z H code C fp A' hr B O0 M Lk (some y :: σ) (κ ++ τ) H4 ⟨O3, I5.front rv⟩ _ fun v dv H5 I6 h6 => ?_
    obtain ⟨b, rfl, h6⟩ := h6
    obtain ⟨O6, I6⟩ := I6
    obtain ⟨I7, rb⟩ := I6.pop1
    cases rb
    refine ⟨b, rfl, ?_⟩
    by_cases hb : b = sb
    · rw [if_pos hb] at h6 ⊢
      exact q _ _ H5 ⟨O6, (I7.back.drops (τ' := τ) fun p hp => List.mem_append.mpr (.inr hp)).push (.bl sb)⟩ h6
    · rw [if_neg hb] at h6 ⊢
      exact ⟨ds.length - (i + 1), by omega, rfl, hlt, ⟨O6, I7.back⟩, h6⟩
  · have e : i = ds.length := by omega
    subst e
    exact .inl ⟨itv.2 (Nat.le_refl _), q _ _ H3 ⟨O3, (I3.drops (τ' := τ) fun p hp => List.mem_append.mpr (.inr hp)).push (.bl _)⟩ (hend hv)⟩
theorem wpE_any {x : Str} {px gpos : Pos} {scope : Scope} {P : D → Prop} {k : Nat} {c Pt : Addr} (hr : Room (k + 1) X.A) (hm : X.mg "any" = none) (TB : GxR.TabB X.base X.mg c Pt) (hP : Pt ∈ Tb) (hcode : X.env.code = .ref c) (hN : X.N.Nodup) (ok : GX.GenOk X.N X.env.scope scope x)
    (h : wpI X Tb (.Name x px) iter δ (AnyAll X Tb k x scope elt δ true P)) (hgl : Gl X "any" := by rfl) (hs : ∀ v, genFold iter X.env v = pure v := by intro _; rfl)
    (hst : starEach [.GeneratorExp elt [⟨.Name x px, iter, [], 0⟩] scope gpos] X.env = (false, eval (.GeneratorExp elt [⟨.Name x px, iter, [], 0⟩] scope gpos) X.env) :: starEach [] X.env := by rfl) :
    wpE X Tb (.Call (.Name "any" p) [.GeneratorExp elt [⟨.Name x px, iter, [], 0⟩] scope gpos] [] pos) δ P := fun B O0 M Lk σ τ H I Q q => by
  obtain ⟨wi, hi, hw⟩ := h
  have hx : x ∉ X.N := ok.own _ (PySem.mem_of_lookup ok.loc) rfl
  exact sem_e (GX.pe_any hr hgl hm TB hcode ok hi (fun z H code C fp A' => pg_name (List.nodup_cons.mpr ⟨hx, hN⟩) rfl (.inl ok.loc) (.inr ok.loc)) (fun z H code C fp A' hr' => ⟨fun pins s σ H' Q I h => (h z H code C fp A' hr').run pins s I⟩) hs hst) (tgen_of hP hw I q)
theorem wpE_all {x : Str} {px gpos : Pos} {scope : Scope} {P : D → Prop} {k : Nat} {c Pt : Addr} (hr : Room (k + 1) X.A) (hm : X.mg "all" = none) (TB : GxR.TabB X.base X.mg c Pt) (hP : Pt ∈ Tb) (hcode : X.env.code = .ref c) (hN : X.N.Nodup) (ok : GX.GenOk X.N X.env.scope scope x)
    (h : wpI X Tb (.Name x px) iter δ (AnyAll X Tb k x scope elt δ false P)) (hgl : Gl X "all" := by rfl) (hs : ∀ v, genFold iter X.env v = pure v := by intro _; rfl)
    (hst : starEach [.GeneratorExp elt [⟨.Name x px, iter, [], 0⟩] scope gpos] X.env = (false, eval (.GeneratorExp elt [⟨.Name x px, iter, [], 0⟩] scope gpos) X.env) :: starEach [] X.env := by rfl) :
    wpE X Tb (.Call (.Name "all" p) [.GeneratorExp elt [⟨.Name x px, iter, [], 0⟩] scope gpos] [] pos) δ P := fun B O0 M Lk σ τ H I Q q => by
  obtain ⟨wi, hi, hw⟩ := h
  have hx : x ∉ X.N := ok.own _ (PySem.mem_of_lookup ok.loc) rfl
  exact sem_e (GX.pe_all hr hgl hm TB hcode ok hi (fun z H code C fp A' => pg_name (List.nodup_cons.mpr ⟨hx, hN⟩) rfl (.inl ok.loc) (.inr ok.loc)) (fun z H code C fp A' hr' => ⟨fun pins s σ H' Q I h => (h z H code C fp A' hr').run pins s I⟩) hs hst) (tgen_of hP hw I q)
end

/-! ### a def by its body -/
def startD (m : Nat) (ds : List D) (N : List Str) : Dl := List.replicate m (some (.own .feed)) ++ ds.map (fun d => some (.d d)) ++ List.replicate (N.length - (m + ds.length)) none
/-- a def as it stands behind the top, its code object at c -/
structure FunC (K : PySem.W.Frag) (x qual : Str) (st : Stmt) (f c : Addr) (fd : FuncData) : Prop where
  ex : ∃ (oc : Value) (od : Option Addr) (kV doc pm : Value) (an : Option Addr) (ct : Value) (osl : Array (Option Value)),
    fd = PySem.W.fnOf x qual (defArgs st) (defBody st) (defScope st) .none kV doc pm an (.ref c) ct ∧ K.lookup f = some ⟨oc, od, .func fd, osl⟩ ∧ PySem.W.codeIn K (.ref c) qual = true
  kp : PySem.W.keepIn K (.ref f) = true
theorem FunC.fun {K : PySem.W.Frag} {x qual : Str} {st : Stmt} {f c : Addr} {fd : FuncData} (F : FunC K x qual st f c fd) : Fun K x qual st f fd := by
  obtain ⟨oc, od, kV, doc, pm, an, ct, osl, h⟩ := F.ex
  exact ⟨⟨oc, od, kV, doc, pm, an, _, ct, osl, h⟩, F.kp⟩
theorem at_start {G : Glo} {H : Hp} {O0 M : List Addr} {ws : List V} {ds : List D} {N : List Str} (hM : M.length ≤ 1) (h1 : ∀ p ∈ M, p ∈ O0) (h2 : ∀ p ∈ O0, H p ≠ none) (h3 : ∀ f ∈ M, FeedAt H f) (h4 : ∀ P ∈ G.Tb, GxR.TabG H P) (r : RpA (vis O0 H) ws ds) (hl : M.length + ds.length ≤ N.length) :
    At G H O0 M ([], []) (startD M.length ds N) (L2.start N (M.map V.ref ++ ws)) [] H := by
  have hws := r.length
  have slots : ∀ (i : Nat) (sl : Sl), (startD M.length ds N)[i]? = some (some sl) → (∃ f, M[i]? = some f ∧ sl = .own .feed) ∨ (M.length ≤ i ∧ ∃ d, ds[i - M.length]? = some d ∧ sl = .d d) := fun i sl e => by
    unfold startD at e
    by_cases hi : i < M.length
    · rw [List.append_assoc, List.getElem?_append_left (by simpa using hi), List.getElem?_replicate, if_pos hi] at e
      cases e
      exact .inl ⟨_, List.getElem?_eq_getElem hi, rfl⟩
    · rw [List.append_assoc, List.getElem?_append_right (by simpa using hi), List.length_replicate] at e
      by_cases hj : i - M.length < ds.length
      · rw [List.getElem?_append_left (by simpa using hj), List.getElem?_map, List.getElem?_eq_getElem hj] at e
        cases e
        exact .inr ⟨by omega, _, List.getElem?_eq_getElem hj, rfl⟩
      · rw [List.getElem?_append_right (by simpa using hj), List.getElem?_replicate] at e
        split at e <;> cases e
  have vals : ∀ (i : Nat) (v : V), (M.map V.ref ++ ws)[i]? = some v → (L2.start N (M.map V.ref ++ ws))[i]? = some (some v) := fun i v e => by
    have hi := (List.getElem?_eq_some_iff.mp e).1
    unfold L2.start
    rw [List.getElem?_append_left (by rw [List.length_map]; exact hi), List.getElem?_map, e]
    rfl
  refine ⟨O0, fun _ h => h, h1, h2, fun p hp => .inl hp, h2, Gr.refl _ _ _, (fun _ z => nomatch z), (fun _ z => nomatch z), h3, h4, (fun _ z => nomatch z), ?_, fun i sl e => ?_, fun i k o o' q e1 e2 e3 e4 => ?_, (fun _ z => nomatch z), fun a od u e => .inl (by rw [e]; exact fun z => nomatch z)⟩
  · unfold startD L2.start
    simp only [List.length_append, List.length_replicate, List.length_map]
    omega
  · rcases slots i sl e with ⟨f, hf, rfl⟩ | ⟨hi, d, hd, rfl⟩
    · have hlt := (List.getElem?_eq_some_iff.mp hf).1
      refine ⟨.ref f, vals i _ (by rw [List.getElem?_append_left (by rw [List.length_map]; exact hlt), List.getElem?_map, hf]; rfl), f, rfl, h1 f (List.mem_of_getElem? hf), .inl (List.mem_of_getElem? hf), .inl rfl, h3 f (List.mem_of_getElem? hf)⟩
    · obtain ⟨v, hv, rv⟩ := r.get hd
      exact ⟨v, vals i v (by rw [List.getElem?_append_right (by rw [List.length_map]; exact hi), List.length_map]; exact hv), rv⟩
  · have z : ∀ {i : Nat} {o : OD}, (startD M.length ds N)[i]? = some (some (Sl.own o)) → i = 0 := fun {i o} e => by
      rcases slots i _ e with ⟨f, hf, _⟩ | ⟨_, d, _, hd⟩
      · have := (List.getElem?_eq_some_iff.mp hf).1
        omega
      · cases hd
    rw [z e1, z e2]
theorem fn_ok {Pg : Program} {w : World} {K : PySem.W.Frag} {mg : Str → Option Value} {base : Heap} {x qual : Str} {st : Stmt} {f c : Addr} {fd : FuncData} {N ps : List Str} {k m n : Nat} {Tb : List Addr} {pre : List D → Prop} {post : List D → D → Prop} (F : FunC K x qual st f c fd) (S : FnScope N ps (defScope st)) (hm : m ≤ 1) (hn : ps.length = m + n)
    (hbody : ∀ (A : Around) (outer : List Env) (s : Shared) (H : Hp) (E : XK) (ds : List D), Room k (A.deeper (PyProof.Rows.envOfC qual (defScope st) s.heap.objs.size f (.ref c))) → ds.length = n → pre ds →
      wpSs (cxOf CX0 Pg w K mg base N qual (defScope st) f (.ref c) A outer s H E).nox Tb (defBody st) (startD m ds N) { nx := fun _ => post ds .none, rt := post ds }) : FnOk Pg w K mg base CX0 (k + 1) f fd ps (spD Tb m n pre post) := by
  obtain ⟨oc, od, kV, doc, pm, an, ct, osl, rfl, lk, hcd⟩ := F.ex
  have hpl : ps.length ≤ N.length := by have := congrArg List.length S.pre; rw [List.length_take] at this; omega
  refine fn_of lk hcd S (fun vs H Q E h => ?_) fun A outer s H vs Q E hr hsp => ?_
  · obtain ⟨O0, M, ws, ds, rfl, hMl, _, _, _, _, r, hd, _⟩ := h
    rw [List.length_append, List.length_map, r.length, hMl, hd, hn]
  · obtain ⟨O0, M, ws, ds, rfl, hMl, h1, h2, h3, h4, r, hd, hp, q⟩ := hsp
    have hb := hbody A outer s H E ds hr hd hp
    subst hMl
    have I := at_start (G := ⟨K, Tb⟩) (N := N) hm h1 h2 h3 h4 r (by omega)
    refine ⟨_, pss_sem.nox, semSs_le ⟨fun σ' H' h => ?_, fun v H' h => ?_, fun _ _ h => ?_, fun _ _ h => ?_⟩ (hb H O0 M ([], []) _ [] H I)⟩
    · obtain ⟨δ', J, h⟩ := h
      have Jr := (J.pushS (v := .non) (d := .none) fun _ => .non).ret
      exact q _ _ H' Jr.gr (fun a od u e => (Jr.nof a od u e).resolve_right (fun z => nomatch z)) Jr.feeds Jr.rp h
    · obtain ⟨d, J, h⟩ := h
      exact q _ _ H' J.gr (fun a od u e => (J.nof a od u e).resolve_right (fun z => nomatch z)) J.feeds J.rp h
    · obtain ⟨_, _, h⟩ := h
      exact h
    · obtain ⟨_, _, h⟩ := h
      exact h
end DL

set_option Elab.async false
set_option linter.all false
set_option maxRecDepth 100000
set_option maxHeartbeats 2000000
/-! DL7: list(dict), dict displays, targets of several names, the script. -/
namespace DL
open PySem PySem.Spec L2

section
variable {X : Cx} {Tb : List Addr} {δ : Dl} {tg e a b iter elt : Expr} {es : List Expr} {pos p : Pos}
/-- list(d), d a dict that a loop may walk -/
def rKeys : List V → Hp → VK → Prop := fun us H Q => ∃ d kvs, us = [.ref d] ∧ Rd H d (.dK kvs) ∧ ∀ q, H q = none → Q (.ref q) (upd H q (.lst ((kvs.map (·.1)).map kV)))
theorem call_keys (hc : X.calm = true) : CallR X (.type "list") rKeys := by
  intro pn s σ H vs us Q I rv ⟨d, kvs, ev, hd, q⟩
  subst ev
  obtain ⟨u, rfl, ru⟩ := vals1 rv
  obtain rfl : u = Value.ref d := ru
  obtain ⟨hz, hlo, ws, rk, hdo⟩ := (show ObjOk X.prog X.w H s.heap d (.dK kvs) from hd.ok I.hok)
  obtain ⟨ep, hat⟩ := hdo.dictAt
  have hlen : kvs.length = ws.length := Paired.length rk
  have run := PySem.W.kdl_dict (prog := X.prog) (w := X.w) (knd := mixKind X.prog X.w) (kvs := ws) (ep := ep) hlo
  refine PySem.W.kdl_call run (I.ok.hd hc) hat (hlen ▸ hz) fun h2 tk arr cap keep hnew hk => ?_
  have sz : arr.toList.length = kvs.length := by simp [hk.1, hlen]
  have items : Vals ((kvs.map (·.1)).map kV) arr.toList := by
    refine vals_of_at (by rw [sz, List.length_map, List.length_map]) fun j x y h1 h2 => ?_
    obtain ⟨k, y', e1, e2⟩ := hk.2 j y (by rw [← Array.getElem?_toList]; exact h2)
    rw [List.getElem?_map, KV.keys rk, List.getElem?_map, e1] at h1
    cases h1
    exact keyIs_rel e2
  refine ⟨.ref s.heap.objs.size, _, I.laid keep (Nat.le_refl _) (o := .lst ((kvs.map (·.1)).map kV)) ⟨?_, arr.toList, cap, items, ?_⟩, rfl, q _ (I.hok.fresh (Nat.le_refl _))⟩
  · rw [List.length_map, List.length_map]
    exact hz
  · rw [Array.toArray_toList]
    exact hnew
def listR : List D → (D → Prop) → Prop
  | [.list ds], P => P (.list ds)
  | [.tuple ds], P => P (.list ds)
  | [.dict ks], P => P (.list (ks.map (·.1)))
  | _, _ => False
theorem keysA {H H' : Hp} : ∀ {kvs : List (Key × V)} {ds : List (D × D)}, RpK H kvs ds → RpA H' ((kvs.map (·.1)).map kV) (ds.map (·.1))
  | _, _, .nil => .nil
  | _, _, .cons (k := k) h r => .cons (by cases k with | inl i => exact .int i | inr x => exact .str x) (keysA r)
theorem call_listD (hc : X.calm = true) : CallR X (.type "list") (fun xs H Q => (∃ p ys, xs = [.ref p] ∧ (SqL X.K H p ys ∨ SqT X.K H p ys) ∧ ∀ l, H l = none → Q (.ref l) (upd H l (.lst ys))) ∨ rKeys xs H Q) := CallR.or call_list_of (call_keys hc)
theorem ok_list : OkC X Tb (fun xs H Q => (∃ p ys, xs = [.ref p] ∧ (SqL X.K H p ys ∨ SqT X.K H p ys) ∧ ∀ l, H l = none → Q (.ref l) (upd H l (.lst ys))) ∨ rKeys xs H Q) listR := by
  intro B O0 M Lk O δ σ τ H vs ds P I r h Q q
  unfold listR at h
  split at h
  · obtain ⟨v, rfl, rv⟩ := r.one'
    obtain ⟨p, xs, rfl, hp, rp⟩ := rv.list'
    exact .inl ⟨p, xs, rfl, .inl (SqL.of (vis_some hp).2), fun l hl => q _ _ _ ⟨O, I.newLst rp hl⟩ h⟩
  · obtain ⟨v, rfl, rv⟩ := r.one'
    obtain ⟨p, xs, rfl, hp, rp⟩ := rv.tuple'
    exact .inl ⟨p, xs, rfl, .inr (SqT.of (vis_some hp).2), fun l hl => q _ _ _ ⟨O, I.newLst rp hl⟩ h⟩
  · obtain ⟨v, rfl, rv⟩ := r.one'
    obtain ⟨p, kvs, rfl, hp, _, rp⟩ := rv.dict'
    exact .inr ⟨p, kvs, rfl, hp.elim (fun e => .inl (vis_some e).2) fun ⟨o, e⟩ => .inr ⟨o, (vis_some e).2⟩, fun l hl => q _ _ _ ⟨O, I.newLst (keysA rp) hl⟩ h⟩
  · exact h.elim

/-! ### targets of several names -/
/-- the names js, one after the other, take the data ds -/
def setAll : Dl → List Nat → List D → Dl
  | δ, j :: js, d :: ds => setAll (δ.set j (some (.d d))) js ds
  | δ, _, _ => δ
def gAll : List Nat → TGs
  | [] => gNil
  | j :: js => gCons (gName j) (gAll js)
theorem gAll_of {G : Glo} {B : Hp} {O0 M O : List Addr} {Lk : Lks} {τ : List (V × D)} {H : Hp} : ∀ {js : List Nat} {vs : List V} {ds : List D} {δ : Dl} {σ : L2.St} {Q : L2.St → Hp → Prop}, AtO G B O0 M Lk O δ σ τ H → RpA (vis O H) vs ds → js.length = ds.length →
    (∀ σ', AtO G B O0 M Lk O (setAll δ js ds) σ' τ H → Q σ' H) → gAll js vs σ H Q
  | [], _, _, _, _, _, I, .nil, _, q => ⟨rfl, q _ I⟩
  | j :: js, _, _, _, _, _, I, .cons h r, hl, q => ⟨_, _, rfl, gAll_of (I.set (j := j) h) r (Nat.succ.inj hl) q⟩
  | [], _, _, _, _, _, _, .cons _ _, hl, _ => by cases hl
  | _ :: _, _, _, _, _, _, _, .nil, hl, _ => by cases hl
theorem wpG_tup {k : Nat} {js : List Nat} {d : D} {P : Dl → Prop} (hg : PGs X es (gAll js)) (h : ∃ ds, d = .tuple ds ∧ js.length = ds.length ∧ P (setAll δ js ds)) (hc : X.calm = true) (hn : (assignEach es X.env).length = js.length := by rfl) (hst : (assignEach es X.env).findIdx? (·.1) = none := by rfl) :
    wpG X Tb (.Tuple es k pos) d δ P := fun B O0 M Lk σ τ H v J Q q => ⟨fun pins s u I r => by
  obtain ⟨ds, rfl, hl, h⟩ := h
  obtain ⟨O, J⟩ := J
  obtain ⟨J0, rv⟩ := J.pop1
  obtain ⟨a, xs, rfl, ha, rx⟩ := rv.tuple'
  exact (pg_tup (pos := pos) (k := k) hc hg hn hst).run pins s σ H _ u Q I r ⟨a, xs, rfl, SqT.of (vis_some ha).2, by rw [rx.length, hl], gAll_of J0 rx hl fun σ' J' => q _ σ' H ⟨O, J'⟩ h⟩⟩
/-- a, b = e -/
theorem wpS_unp {R : Rs} (h : wpE X Tb e δ fun d => wpG X Tb tg d δ R.nx) (hs : swapsWithSole [tg] e pos.line X.env = pure false := by rfl) (hw : swappedStores [tg] e X.env = pure none := by rfl)
    (h1 : (assignEach [tg] X.env).map (·.2) = [assign tg X.env] := by rfl) : wpS X Tb (.Assign [tg] e pos) δ R := fun B O0 M Lk σ τ H I =>
  sem_s (ps_asg pe_sem pg_sem hs hw h1) (h B O0 M Lk σ τ H I _ fun v d H' J q => by
    exact q B O0 M Lk σ τ H' v J _ (fun δ' σ' H2 J2 q2 => ⟨δ', J2, q2⟩))
/-- a, b = x, y -/
theorem wpS_par {R : Rs} {i j : Nat} {x y : Str} {px py pt : Pos} {kt k2 : Nat} {pt2 : Pos} (h : wpA X Tb [a, b] δ fun ds => ∃ d e, ds = [d, e] ∧ R.nx ((δ.set i (some (.d d))).set j (some (.d e)))) (hc : X.calm = true) (hN : X.N.Nodup) (hij : i ≠ j) (hi : X.N[i]? = some x := by rfl) (hj : X.N[j]? = some y := by rfl)
    (hx : X.env.scope.names.lookup x = some .local := by rfl) (hy : X.env.scope.names.lookup y = some .local := by rfl) (hw : swappedStores [.Tuple [.Name x px, .Name y py] kt pt] (.Tuple [a, b] k2 pt2) X.env = pure (some [x, y]) := by kernel_rfl)
    (hs : swapsWithSole [.Tuple [.Name x px, .Name y py] kt pt] (.Tuple [a, b] k2 pt2) pos.line X.env = pure false := by kernel_rfl) : wpS X Tb (.Assign [.Tuple [.Name x px, .Name y py] kt pt] (.Tuple [a, b] k2 pt2) pos) δ R := fun B O0 M Lk σ τ H I =>
  sem_s (ps_par hc hN hi hj hij hx hy pa_sem hw hs) (h B O0 M Lk σ τ H I _ fun ps H' J q => by
    obtain ⟨d, e', ed, q⟩ := q
    obtain ⟨O, J⟩ := J
    obtain ⟨J0, r⟩ := J.popA
    rw [ed] at r
    obtain ⟨v, u, ev, rv, ru⟩ := r.two'
    exact ⟨v, u, ev, _, ⟨O, (J0.set (j := i) rv).set (j := j) ru⟩, q⟩)
end
end DL

set_option Elab.async false
set_option linter.all false
set_option maxRecDepth 100000
set_option maxHeartbeats 2000000
/-! DL8: dict displays; the script; dicts walked. -/
namespace DL
open PySem PySem.Spec L2

section
variable {X : Cx} {Tb : List Addr} {δ : Dl} {tg e a b iter elt : Expr} {es : List Expr} {pos p : Pos}
/-- the pairs of a display -/
structure Prs where
  k : V
  kd : D
  v : V
  vd : D
def semP (X : Cx) : List Expr → List Expr → List (TE × TE)
  | k :: ks, v :: vs => (semE X k, semE X v) :: semP X ks vs
  | _, _ => []
theorem pps_sem : ∀ {ks vs : List Expr}, ks.length = vs.length → PPs X pos (ks.map some) vs (semP X ks vs)
  | [], [], _ => pps_nil
  | k :: ks, v :: vs, h => pps_cons pe_sem pe_sem (pps_sem (Nat.succ.inj h))
  | [], _ :: _, h => by cases h
  | _ :: _, [], h => by cases h
def wpP (X : Cx) (Tb : List Addr) : List Expr → List Expr → Dl → (List (D × D) → Prop) → Prop
  | k :: ks, v :: vs, δ, P => wpE X Tb k δ fun dk => wpE X Tb v δ fun dv => wpP X Tb ks vs δ fun r => P ((dk, dv) :: r)
  | _, _, _, P => P []
theorem pairs_of : ∀ {ks vs : List Expr} {P : List (D × D) → Prop} {B : Hp} {O0 M : List Addr} {Lk : Lks} {σ : L2.St} {τ : List (V × D)} {H : Hp} {Q : List (V × V) → Hp → Prop}, wpP X Tb ks vs δ P → At (GX X Tb) B O0 M Lk δ σ τ H →
    (∀ (ps : List Prs) H', At (GX X Tb) B O0 M Lk δ σ (ps.map (fun p => (p.k, p.kd)) ++ (ps.map (fun p => (p.v, p.vd)) ++ τ)) H' → P (ps.map fun p => (p.kd, p.vd)) → Q (ps.map fun p => (p.k, p.v)) H') → tPairs (semP X ks vs) σ H Q
  | k :: ks, v :: vs, P, B, O0, M, Lk, σ, τ, H, Q, h, I, q => h B O0 M Lk σ τ H I _ fun x dx H1 I1 h1 => h1 B O0 M Lk σ _ H1 I1 _ fun y dy H2 I2 h2 => pairs_of h2 I2 fun ps H3 I3 h3 => q (⟨x, dx, y, dy⟩ :: ps) H3 (I3.drops fun p hp => by
      simp only [List.map_cons, List.cons_append, List.mem_cons, List.mem_append] at hp ⊢
      rcases hp with h | h | h | h | h
      · exact .inr (.inr (.inr (.inl h)))
      · exact .inl h
      · exact .inr (.inr (.inl h))
      · exact .inr (.inl h)
      · exact .inr (.inr (.inr (.inr h)))) h3
  | [], _, P, B, O0, M, Lk, σ, τ, H, Q, h, I, q => by
    have h : P [] := by
      unfold wpP at h
      exact h
    exact q [] H I h
  | _ :: _, [], P, B, O0, M, Lk, σ, τ, H, Q, h, I, q => q [] H I h
theorem merge_nodup : ∀ {more kvs : List (Key × V)}, ((kvs ++ more).map (·.1)).Nodup → mergeK kvs more = kvs ++ more
  | [], kvs, _ => by rw [List.append_nil]; rfl
  | p :: r, kvs, h => by
    have hn : valV kvs p.1 = none := by
      cases e : valV kvs p.1 with
      | none => rfl
      | some v =>
        rw [List.map_append, List.nodup_append] at h
        exact absurd rfl (h.2.2 _ (valV_in e) _ List.mem_cons_self)
    show mergeK (putK kvs p.1 p.2) r = _
    rw [putK_new p.2 hn]
    have h2 : ((kvs ++ [(p.1, p.2)] ++ r).map (·.1)).Nodup := by
      rw [List.append_assoc]
      exact h
    rw [merge_nodup h2, List.append_assoc]
    rfl
theorem rpK_mk {H : Hp} : ∀ {kvs : List (Key × V)} {ps : List Prs}, (ps.map fun p => (p.k, p.v)) = kvs.map (fun kv => (kV kv.1, kv.2)) → (∀ p ∈ ps, Rp H p.k p.kd) → (∀ p ∈ ps, Rp H p.v p.vd) → RpK H kvs (ps.map fun p => (p.kd, p.vd))
  | [], [], _, _, _ => .nil
  | (k, v) :: r, p :: ps, e, h1, h2 => by
    obtain ⟨pk, pkd, pv, pvd⟩ := p
    have e1 : pk = kV k := congrArg (fun l : List (V × V) => (l.headD (.non, .non)).1) e
    have e2 : pv = v := congrArg (fun l : List (V × V) => (l.headD (.non, .non)).2) e
    have e3 : (ps.map fun p => (p.k, p.v)) = r.map (fun kv => (kV kv.1, kv.2)) := List.cons.inj e |>.2
    have hk : pkd = kD k := by
      have := h1 _ List.mem_cons_self
      simp only at this
      rw [e1] at this
      cases k with
      | inl i => cases this; rfl
      | inr x => cases this; rfl
    show RpK H ((k, v) :: r) ((pkd, pvd) :: _)
    rw [hk]
    exact .cons (by rw [← e2]; exact h2 _ List.mem_cons_self) (rpK_mk e3 (fun q hq => h1 q (List.mem_cons_of_mem _ hq)) fun q hq => h2 q (List.mem_cons_of_mem _ hq))
  | [], _ :: _, e, _, _ => by cases e
  | _ :: _, [], e, _, _ => by cases e
theorem keysE {H : Hp} : ∀ {ps : List Prs} {ks : List Key}, ps.map (·.kd) = ks.map kD → (∀ p ∈ ps, Rp H p.k p.kd) → (ps.map fun p => (p.k, p.v)) = (ks.zip (ps.map (·.v))).map (fun kv => (kV kv.1, kv.2))
  | [], [], _, _ => rfl
  | p :: r, k :: ks, e, h => by
    have e1 : p.kd = kD k := (List.cons.inj e).1
    have hk1 : p.k = kV k := Rp.key (by rw [← e1]; exact h p List.mem_cons_self)
    show (p.k, p.v) :: _ = (kV k, p.v) :: _
    rw [hk1, keysE (List.cons.inj e).2 fun q hq => h q (List.mem_cons_of_mem _ hq)]
    rfl
  | [], _ :: _, e, _ => by cases e
  | _ :: _, [], e, _ => by cases e
/-- {k: v, ..} with keys that differ: ks, the keys -/
theorem wpE_disp {P : D → Prop} {kes vs : List Expr} {keys : List (Option Expr)} (hk : keys = kes.map some) (h : wpP X Tb kes vs δ fun kvs => kvs.length ≤ 15 ∧ (∃ ks : List Key, kvs.map (·.1) = ks.map kD ∧ ks.Nodup) ∧ P (.dict kvs)) (hl : kes.length = vs.length := by rfl) (h0 : keys ≠ [] := by exact fun z => nomatch z) (h15 : keys.length ≤ 15 := by decide)
    (hall : keys.all (·.isSome) = true := by rfl) : wpE X Tb (.Dict keys vs pos) δ P := fun B O0 M Lk σ τ H I Q q => by
  subst hk
  refine sem_e (pe_disp (pps_sem hl) hall (by rw [List.length_map]; exact hl) h0 h15) fun L hL => ?_
  obtain ⟨O, I⟩ := I
  obtain ⟨I2, ve, hBL⟩ := I.hide (q := L) (ob := .dK []) hL
  have noh : ∀ p ∈ Lk.2, p.1 ≠ L := fun p hp z => by
    have := (I.hid p hp).1
    rw [z, hL] at this
    cases this
  refine pairs_of h ⟨_, I2⟩ fun ps H' J ⟨hl15, ⟨ks, hks, hnd⟩, hP⟩ => ?_
  obtain ⟨O', J⟩ := J
  have hkd : ∀ p ∈ ps, Rp (vis O' H') p.k p.kd := fun p hp => J.tmp (p.k, p.kd) (List.mem_append.mpr (.inl (List.mem_map.mpr ⟨p, hp, rfl⟩)))
  have hvd : ∀ p ∈ ps, Rp (vis O' H') p.v p.vd := fun p hp => J.tmp (p.v, p.vd) (List.mem_append.mpr (.inr (List.mem_append.mpr (.inl (List.mem_map.mpr ⟨p, hp, rfl⟩)))))
  have hlen : ps.length = ks.length := by
    have := congrArg List.length hks
    simpa using this
  have kvsE := keysE (ps := ps) (ks := ks) (by rw [← hks, List.map_map]; rfl) hkd
  have hkeys : (ks.zip (ps.map (·.v))).map (·.1) = ks := by
    rw [List.map_fst_zip]
    rw [List.length_map, hlen]
    exact Nat.le_refl _
  have hlen15 : (ks.zip (ps.map (·.v))).length ≤ 15 := by
    rw [List.length_zip, List.length_map, hlen, Nat.min_self, ← hlen]
    have := hl15
    rwa [List.length_map] at this
  refine ⟨(J.hid _ List.mem_cons_self).1, _, kvsE, hlen15, ?_⟩
  have em : mergeK [] (ks.zip (ps.map (·.v))) = ks.zip (ps.map (·.v)) := merge_nodup (by rw [List.nil_append, hkeys]; exact hnd)
  rw [em]
  obtain ⟨J2, ve2⟩ := J.turn (ob' := .dK (ks.zip (ps.map (·.v)))) noh
  obtain ⟨O3, J3, le3, e3⟩ := J2.show' noh
  refine q _ _ _ ⟨O3, (J3.drops (τ' := τ) fun p hp => List.mem_append.mpr (.inr (List.mem_append.mpr (.inr hp)))).push (.dic (.inl e3) (by rw [hkeys]; exact hnd) ?_)⟩ hP
  refine (rpK_mk kvsE hkd hvd).mono ?_
  rw [← ve2]
  exact le3
end
end DL

set_option Elab.async false
set_option linter.all false
set_option maxRecDepth 100000
set_option maxHeartbeats 2000000
/-! DL9: any, all and comprehensions told by functions. -/
namespace DL
open PySem PySem.Spec L2
section
variable {X : Cx} {Tb : List Addr} {δ : Dl} {elt : Expr} {k : Nat} {x : Str} {scope : Scope} {P : D → Prop}
theorem any_items {items : List D} (t : D → Bool) (h : ∀ d ∈ items, ∀ z H code C fp A', Room k A' → wpE (gX X x scope z H code C fp A') Tb elt (some (.d d) :: δ) fun y => y = .bool (t d)) (hP : P (.bool (items.any t))) : AnyAll X Tb k x scope elt δ true P items := by
  refine ⟨fun i => (items.take i).any t = false, rfl, fun i d hd hv z H code C fp A' hr => ?_, fun hv => ?_⟩
  · refine wpE_mono (h d (List.mem_of_getElem? hd) z H code C fp A' hr) fun y hy => ⟨t d, hy, ?_⟩
    cases e : t d with
    | true =>
      rw [if_pos rfl]
      rw [List.any_eq_true.mpr ⟨d, List.mem_of_getElem? hd, e⟩] at hP
      exact hP
    | false =>
      rw [if_neg (by decide)]
      show (items.take (i + 1)).any t = false
      have hv : (items.take i).any t = false := hv
      rw [List.take_add_one, hd, List.any_append, hv]
      show (false || List.any [d] t) = false
      rw [List.any_cons, e]
      rfl
  · have hv : (items.take items.length).any t = false := hv
    rw [List.take_length] at hv
    rw [hv] at hP
    exact hP
theorem all_items {items : List D} (t : D → Bool) (h : ∀ d ∈ items, ∀ z H code C fp A', Room k A' → wpE (gX X x scope z H code C fp A') Tb elt (some (.d d) :: δ) fun y => y = .bool (t d)) (hP : P (.bool (items.all t))) : AnyAll X Tb k x scope elt δ false P items := by
  refine ⟨fun i => (items.take i).all t = true, rfl, fun i d hd hv z H code C fp A' hr => ?_, fun hv => ?_⟩
  · refine wpE_mono (h d (List.mem_of_getElem? hd) z H code C fp A' hr) fun y hy => ⟨t d, hy, ?_⟩
    cases e : t d with
    | false =>
      rw [if_pos rfl]
      have : items.all t = false := by
        rw [Bool.eq_false_iff]
        intro q
        have := List.all_eq_true.mp q d (List.mem_of_getElem? hd)
        rw [e] at this
        cases this
      rw [this] at hP
      exact hP
    | true =>
      rw [if_neg (by decide)]
      show (items.take (i + 1)).all t = true
      have hv : (items.take i).all t = true := hv
      rw [List.take_add_one, hd, List.all_append, hv]
      show (true && List.all [d] t) = true
      rw [List.all_cons, e]
      rfl
  · have hv : (items.take items.length).all t = true := hv
    rw [List.take_length] at hv
    rw [hv] at hP
    exact hP
/-- [elt(x) for x in items] -/
abbrev LcGoal (X : Cx) (Tb : List Addr) (scope : Scope) (elt : Expr) (δ : Dl) (j : Nat) (c : Option Expr) (P : D → Prop) (ds : List D) : Prop := LcG X Tb scope elt δ j c P ds
theorem lc_map {ds : List D} {j : Nat} (g : D → D) (hl : ds.length < sizeLine) (h : ∀ d ∈ ds, ∀ z H C cl fp, wpE (blkX X z H scope C cl fp) Tb elt (δ.set j (some (.d d))) fun y => y = g d) (hP : P (.list (ds.map g))) : LcGoal X Tb scope elt δ j none P ds := by
  refine ⟨hl, fun i acc => acc = (ds.take i).map g, rfl, fun i d acc hd hv z H C cl fp => ?_, fun acc hv => ?_⟩
  · refine wpE_mono (h d (List.mem_of_getElem? hd) z H C cl fp) fun y hy => ?_
    show acc ++ [y] = _
    rw [List.take_add_one, hd, List.map_append, hy, hv]
    rfl
  · have hv : acc = (ds.take ds.length).map g := hv
    rw [List.take_length] at hv
    rw [hv]
    exact hP
theorem lc_filter {ds : List D} {j : Nat} {c : Expr} (t : D → Bool) (g : D → D) (hl : ds.length < sizeLine) (ht : ∀ d ∈ ds, ∀ z H C cl fp, wpT (blkX X z H scope C cl fp) Tb c (δ.set j (some (.d d))) fun k => k = t d)
    (h : ∀ d ∈ ds, t d = true → ∀ z H C cl fp, wpE (blkX X z H scope C cl fp) Tb elt (δ.set j (some (.d d))) fun y => y = g d) (hP : P (.list ((ds.filter t).map g))) : LcGoal X Tb scope elt δ j (some c) P ds := by
  refine ⟨hl, fun i acc => acc = ((ds.take i).filter t).map g, rfl, fun i d acc hd hv => ⟨fun k => k = t d, ht d (List.mem_of_getElem? hd), fun e z H C cl fp => ?_, fun e => ?_⟩, fun acc hv => ?_⟩
  · refine wpE_mono (h d (List.mem_of_getElem? hd) e.symm z H C cl fp) fun y hy => ?_
    show acc ++ [y] = _
    rw [List.take_add_one, hd, List.filter_append, List.map_append, hy, hv]
    show _ = _ ++ List.map g (List.filter t [d])
    rw [List.filter_cons, ← e]
    rfl
  · show acc = _
    rw [List.take_add_one, hd, List.filter_append, List.map_append, hv]
    show _ = _ ++ List.map g (List.filter t [d])
    rw [List.filter_cons, ← e]
    exact (List.append_nil _).symm
  · have hv : acc = ((ds.take ds.length).filter t).map g := hv
    rw [List.take_length] at hv
    rw [hv]
    exact hP
end
/-! the results -/
theorem r_addI {i j : Int} {P : D → Prop} (h : P (.int (i + j))) : addR (.int i) (.int j) P := h
theorem r_subI {i j : Int} {P : D → Prop} (h : P (.int (i - j))) : subR (.int i) (.int j) P := h
theorem r_lt {f : Int → Int → Bool} {i j : Int} {P : D → Prop} (h : P (.bool (f i j))) : ltR f (.int i) (.int j) P := h
theorem r_max {i j : Int} {P : D → Prop} (h : P (.int (max i j))) : maxR [.int i, .int j] P := h
theorem r_min {i j : Int} {P : D → Prop} (h : P (.int (min i j))) : minR [.int i, .int j] P := h
theorem r_eqI {f : Bool → Bool} {i j : Int} {P : D → Prop} (h : P (.bool (f (decide (i = j))))) : eqR f (.int i) (.int j) P := h
theorem r_eqS {f : Bool → Bool} {i j : Str} {P : D → Prop} (h : P (.bool (f (decide (i = j))))) : eqR f (.str i) (.str j) P := h
theorem r_eqB {f : Bool → Bool} {i j : Bool} {P : D → Prop} (h : P (.bool (f (decide (i = j))))) : eqR f (.bool i) (.bool j) P := h
end DL

set_option Elab.async false
set_option linter.all false
set_option maxRecDepth 100000
set_option maxHeartbeats 2000000
/-! DL10: the script, feeds and draws; the law's own frame. -/
namespace DL
open PySem PySem.Spec L2
theorem boot_len' : bootBuiltins "len" = some (.builtin "len") := by decide +kernel
theorem boot_abs' : bootBuiltins "abs" = some (.builtin "abs") := by decide +kernel
theorem lt1000 {n : Nat} (h : n ≤ 1000) : n ≤ sizeLine := Nat.le_trans h (by decide)
theorem ix_nat {n j : Nat} (hj : j < n) : ixN n (j : Int) = some j := by
  unfold ixN
  rw [if_pos (by omega), if_pos (by omega)]
  simp
theorem at_nat {α : Type} {xs : List α} {n : Nat} {x : α} (h : xs[n]? = some x) : atI xs (n : Int) = some x := by
  obtain ⟨hl, _⟩ := List.getElem?_eq_some_iff.mp h
  unfold atI
  rw [ix_nat hl]
  exact h
/-- _law_feed(script, k): a new pair of numbers -/
def spFeed (K : PySem.W.Frag) : Sp := fun vs H Q _ => ∃ (a : Addr) (ns : List Int) (i : Nat), vs = [.ref a, .int (i : Nat)] ∧ SqL K H a (ns.map V.int) ∧ ∀ p x y, H p = none → Q (.ref p) (upd H p (.lst [.int x, .int y]))
abbrev preT : List D → Prop := fun ds => ∃ m : Int, ds = [.int m] ∧ 0 < m ∧ m < 1073741824
abbrev postT : List D → D → Prop := fun ds d => ∃ m z : Int, ds = [.int m] ∧ d = .int z ∧ 0 ≤ z ∧ z < m
section
variable {X : Cx} {Tb : List Addr} {δ : Dl} {eks es : List Expr} {pos pc pT pF py : Pos} {P : D → Prop} {xT xF y : Str} {fT fF : Addr} {fdT fdF : FuncData} {kT kF : Nat} {psT psF : List Str} {ns : List Int}
theorem vis_all {O : List Addr} {H : Hp} : Le (vis O H) H := by
  have e : vis [] H = H := by
    funext a
    rw [vis_out (by simp)]
  have h : Le (vis O H) (vis [] H) := vis_le fun a ha => by cases ha
  rw [e] at h
  exact h
theorem AtO.scr {G : Glo} {B : Hp} {O0 M O : List Addr} {Lk : Lks} {σ : L2.St} {τ : List (V × D)} {H : Hp} {j : Nat} (I : AtO G B O0 M Lk O δ σ τ H) (hj : δ[j]? = some (some (.scr ns))) : ∃ a, σ[j]? = some (some (.ref a)) ∧ SqL G.K H a (ns.map V.int) := by
  obtain ⟨v, e, a, rfl, h⟩ := I.slots j _ hj
  exact ⟨a, e, ex_seq vis_all h⟩
theorem AtO.unhid {G : Glo} {B : Hp} {O0 M O : List Addr} {Lk1 : List (Addr × Obj × HO)} {hs : List (Addr × HO)} {σ : L2.St} {τ : List (V × D)} {H : Hp} {r : Addr × HO} (I : AtO G B O0 M (Lk1, r :: hs) O δ σ τ H) : AtO G B O0 M (Lk1, hs) O δ σ τ H :=
  ⟨I.sub0, I.subM, I.o0, I.new, I.live, I.gr, fun p hp => I.hid p (List.mem_cons_of_mem _ hp), fun p hp => I.hidT p (List.mem_cons_of_mem _ hp), I.feeds, I.tabs, I.tmp, I.len, I.slots, I.sep, I.lck, I.nof⟩
/-- len(script) -/
theorem wpE_lenS (j : Nat) (hj : δ[j]? = some (some (.scr ns))) (m_len : X.mg "len" = none) (h : P (.int ns.length)) (hN : X.N[j]? = some y := by rfl) (hg : Gl X "len" := by rfl)
    (hv : Vis X.env.scope y := by first | exact Or.inl rfl | exact Or.inr (Or.inl rfl) | exact Or.inr (Or.inr rfl)) (h1 : (y == ("__debug__" : Str)) = false := by decide) (h2 : (y == ("__classdict__" : Str)) = false := by decide)
    (he : starEach [.Name y py] X.env = (false, eval (.Name y py) X.env) :: starEach [] X.env := by rfl) (hpl : (backTo pos (starEach [] X.env)).any (·.1) = false := by rfl) :
    wpE X Tb (.Call (.Name "len" pF) [.Name y py] [] pos) δ P := fun B O0 M Lk σ τ H I Q q => by
  obtain ⟨O, J⟩ := id I
  obtain ⟨a, e, hS⟩ := J.scr hj
  refine sem_e (pe_callB call_len_seq hg m_len boot_len' (pa_cons (pe_var hN hv h1 h2) pa_nil he) (by decide) (by decide) he hpl) ?_
  refine ⟨.ref a, e, a, _, rfl, .inl hS, ?_⟩
  rw [List.length_map]
  exact q _ _ H (I.pushS fun _ => .int _) h
/-- _law_take(_law_feed(script, k), many) -/
theorem wpE_takeFeed (j : Nat) (FT : FnOk X.prog X.w X.K X.mg X.base CX0 kT fT fdT psT (spD Tb 1 1 preT postT)) (hrT : Room kT X.A) (hmT : X.mg xT = some (.ref fT)) (hkT : PySem.W.keepIn X.K (.ref fT) = true) (hbT : Binds X.K fdT psT [])
    (FF : FnOk X.prog X.w X.K X.mg X.base CX0 kF fF fdF psF (spFeed X.K)) (hrF : Room kF X.A) (hmF : X.mg xF = some (.ref fF)) (hkF : PySem.W.keepIn X.K (.ref fF) = true) (hbF : Binds X.K fdF psF [])
    (hj : δ[j]? = some (some (.scr ns)))
    (h : wpA X Tb eks δ fun ds => ∃ i : Nat, ds = [.int (i : Nat)] ∧ wpA X Tb es δ fun ds => ∃ m : Int, ds = [.int m] ∧ 0 < m ∧ m < 1073741824 ∧ ∀ z, 0 ≤ z → z < m → P (.int z))
    (hN : X.N[j]? = some y := by rfl) (hv : Vis X.env.scope y := by first | exact Or.inl rfl | exact Or.inr (Or.inl rfl) | exact Or.inr (Or.inr rfl)) (h1 : (y == ("__debug__" : Str)) = false := by decide) (h2 : (y == ("__classdict__" : Str)) = false := by decide)
    (hgT : Gl X xT := by rfl) (hgF : Gl X xF := by rfl) (hdT : (xT == ("__debug__" : Str)) = false := by decide) (hdF : (xF == ("__debug__" : Str)) = false := by decide)
    (heF : starEach (.Name y py :: eks) X.env = (false, eval (.Name y py) X.env) :: starEach eks X.env := by rfl) (hplF : (backTo pc (starEach eks X.env)).any (·.1) = false := by rfl)
    (heT : starEach (.Call (.Name xF pF) (.Name y py :: eks) [] pc :: es) X.env = (false, eval (.Call (.Name xF pF) (.Name y py :: eks) [] pc) X.env) :: starEach es X.env := by rfl) (hplT : (backTo pos (starEach es X.env)).any (·.1) = false := by rfl) :
    wpE X Tb (.Call (.Name xT pT) (.Call (.Name xF pF) (.Name y py :: eks) [] pc :: es) [] pos) δ P := fun B O0 M Lk σ τ H I Q q => by
  refine sem_e (pe_call FT hrT hgT hmT hkT hbT .nil (pass0 (X := X)) (pa_cons (pe_call FF hrF hgF hmF hkF hbF .nil (pass0 (X := X)) (pa_cons (pe_var hN hv h1 h2) pa_sem heF) hdF heF hplF) pa_sem heT) hdT heT hplT) ?_
  obtain ⟨O, J⟩ := id I
  obtain ⟨a, e0, hS⟩ := J.scr hj
  refine ⟨.ref a, e0, h B O0 M Lk σ τ H I _ fun ps H1 J1 h1 => ?_⟩
  obtain ⟨i, hds, h2⟩ := h1
  obtain ⟨O1, J1⟩ := J1
  obtain ⟨J1, r1⟩ := J1.popA
  rw [hds] at r1
  obtain ⟨a1, e1, hS1⟩ := J1.scr hj
  have ea : a = a1 := V.ref.inj (Option.some.inj (Option.some.inj (e0.symm.trans e1)))
  subst ea
  have e2 : ps.map (·.1) = [V.int (i : Nat)] := by
    cases hps : ps.map (·.1) with
    | nil => rw [hps] at r1; cases r1
    | cons v r =>
      rw [hps] at r1
      cases r1 with
      | cons rv rr =>
        rw [rv.int']
        cases rr
        rfl
  refine ⟨a, ns, i, ?_, hS1, fun p x z hp => ?_⟩
  · show (.ref a :: ps.map (·.1)) ++ [] = _
    rw [e2]
    rfl
  · obtain ⟨J2, _, _⟩ := J1.hide (ob := .lst [.int x, .int z]) hp
    refine h2 B O0 M _ σ τ _ ⟨_, J2⟩ _ fun ps2 H2 J3 h3 => ?_
    obtain ⟨m, hm, m0, m1, hz⟩ := h3
    obtain ⟨O3, J3⟩ := J3
    obtain ⟨J3, r3⟩ := J3.popA
    obtain ⟨g1, g2, g3, g4⟩ := J3.hid _ List.mem_cons_self
    refine ⟨O3, [p], ps2.map (·.1), ps2.map (·.2), ?_, rfl, (fun f hf => ?_), J3.live, (fun f hf => ?_), J3.tabs, r3, by rw [hm]; rfl, ⟨m, hm, m0, m1⟩, fun v d H' g nf hf rv hp2 => ?_⟩
    · show (.ref p :: ps2.map (·.1)) ++ ([] : List V) = .ref p :: ([] ++ _)
      rw [List.append_nil, List.nil_append]
    · rw [List.mem_singleton.mp hf]; exact g2
    · rw [List.mem_singleton.mp hf]; exact ⟨x, z, g1⟩
    · obtain ⟨m', k, em, rfl, k0, k1⟩ := hp2
      rw [hm] at em
      cases em
      refine q v _ H' ⟨O3, (J3.unhid.grow g hf (fun f hf => ?_) (fun f hf i o ho hs => ?_) (fun f hf r hr e => ?_) nf).push rv⟩ (hz k k0 k1)
      · rw [List.mem_singleton.mp hf]; exact ⟨g2, .inr g3, ⟨x, z, g1⟩⟩
      · rw [List.mem_singleton.mp hf] at hs
        exact absurd hs (g4 i o ho)
      · rw [List.mem_singleton.mp hf] at e
        have := (J1.hid r hr).1
        rw [e, hp] at this
        cases this
end

/-! ### the law's own frame: the script alone -/
def startS (ns : List Int) (N : List Str) : Dl := some (.scr ns) :: List.replicate (N.length - 1) none
def spLaw (K : PySem.W.Frag) (Tb : List Addr) (pre : List Int → Prop) : Sp := fun vs H Q _ => ∃ (a : Addr) (ns : List Int), vs = [.ref a] ∧ SqL K H a (ns.map V.int) ∧ (∀ P ∈ Tb, GxR.TabG H P) ∧ pre ns ∧ ∀ H', Q (.bl true) H'
theorem law_ok {Pg : Program} {w : World} {K : PySem.W.Frag} {mg : Str → Option Value} {base : Heap} {x qual : Str} {st : Stmt} {f c : Addr} {fd : FuncData} {N ps : List Str} {k : Nat} {Tb : List Addr} {pre : List Int → Prop} (F : FunC K x qual st f c fd) (S : FnScope N ps (defScope st)) (hn : ps.length = 1)
    (hbody : ∀ (A : Around) (outer : List Env) (s : Shared) (H : Hp) (E : XK) (ns : List Int), Room k (A.deeper (PyProof.Rows.envOfC qual (defScope st) s.heap.objs.size f (.ref c))) → pre ns →
      wpSs (cxOf CX0 Pg w K mg base N qual (defScope st) f (.ref c) A outer s H E).nox Tb (defBody st) (startS ns N) { nx := fun _ => False, rt := fun d => d = .bool true }) : FnOk Pg w K mg base CX0 (k + 1) f fd ps (spLaw K Tb pre) := by
  obtain ⟨oc, od, kV, doc, pm, an, ct, osl, rfl, lk, hcd⟩ := F.ex
  have hpl : ps.length ≤ N.length := by have := congrArg List.length S.pre; rw [List.length_take] at this; omega
  refine fn_of lk hcd S (fun vs H Q E h => ?_) fun A outer s H vs Q E hr hsp => ?_
  · obtain ⟨a, ns, rfl, _⟩ := h
    exact hn.symm
  · obtain ⟨a, ns, rfl, hS, hT, hp, q⟩ := hsp
    have hb := hbody A outer s H E ns hr hp
    have e0 : vis [] H = H := by
      funext a
      rw [vis_out (by simp)]
    have I : At ⟨K, Tb⟩ H [] [] ([], []) (startS ns N) (L2.start N [.ref a]) [] H := by
      refine ⟨[], fun _ h => h, (fun _ z => nomatch z), (fun _ z => nomatch z), (fun _ z => nomatch z), (fun _ z => nomatch z), Gr.refl _ _ _, (fun _ z => nomatch z), (fun _ z => nomatch z), (fun _ z => nomatch z), hT, (fun _ z => nomatch z), ?_, fun i sl e => ?_, fun i k o o' q e1 e2 e3 e4 => ?_, (fun _ z => nomatch z), fun a od u e => .inl (by rw [e]; exact fun z => nomatch z)⟩
      · unfold startS L2.start
        simp only [List.length_append, List.length_replicate, List.length_map, List.length_cons, List.length_nil]
        omega
      · cases i with
        | zero =>
          cases e
          exact ⟨.ref a, rfl, a, rfl, by rw [e0]; exact hS⟩
        | succ i =>
          exfalso
          unfold startS at e
          rw [List.getElem?_cons_succ, List.getElem?_replicate] at e
          split at e <;> cases e
      · cases i with
        | zero => cases e1
        | succ i =>
          exfalso
          unfold startS at e1
          rw [List.getElem?_cons_succ, List.getElem?_replicate] at e1
          split at e1 <;> cases e1
    refine ⟨_, pss_sem.nox, semSs_le ⟨fun σ' H' h => ?_, fun v H' h => ?_, fun _ _ h => ?_, fun _ _ h => ?_⟩ (hb H [] [] ([], []) _ [] H I)⟩
    · obtain ⟨_, _, h⟩ := h
      exact h.elim
    · obtain ⟨d, J, h⟩ := h
      have rv := J.rp
      rw [h] at rv
      rw [rv.bool']
      exact q H'
    · obtain ⟨_, _, h⟩ := h
      exact h
    · obtain ⟨_, _, h⟩ := h
      exact h
end DL

set_option Elab.async false
set_option linter.all false
set_option maxRecDepth 100000
set_option maxHeartbeats 2000000
/-! DL11: small displays; steps that the text tells. -/
namespace DL
open PySem PySem.Spec L2
section
variable {X : Cx} {Tb : List Addr} {δ : Dl} {k1 k2 k3 v1 v2 v3 : Expr} {pos : Pos} {P : D → Prop}
theorem wpE_disp1 (h : wpE X Tb k1 δ fun a1 => wpE X Tb v1 δ fun b1 => ∃ x : Key, a1 = kD x ∧ P (.dict [(a1, b1)])) : wpE X Tb (.Dict [some k1] [v1] pos) δ P :=
  wpE_disp (kes := [k1]) rfl (wpE_mono h fun a1 h => wpE_mono h fun b1 h => by
    obtain ⟨x, rfl, h⟩ := h
    exact ⟨by show 1 ≤ 15; decide, ⟨[x], rfl, by simp⟩, h⟩) (h15 := by show 1 ≤ 15; decide)
theorem wpE_disp2 (h : wpE X Tb k1 δ fun a1 => wpE X Tb v1 δ fun b1 => wpE X Tb k2 δ fun a2 => wpE X Tb v2 δ fun b2 => ∃ x y : Key, a1 = kD x ∧ a2 = kD y ∧ x ≠ y ∧ P (.dict [(a1, b1), (a2, b2)])) : wpE X Tb (.Dict [some k1, some k2] [v1, v2] pos) δ P :=
  wpE_disp (kes := [k1, k2]) rfl (wpE_mono h fun a1 h => wpE_mono h fun b1 h => wpE_mono h fun a2 h => wpE_mono h fun b2 h => by
    obtain ⟨x, y, rfl, rfl, n, h⟩ := h
    exact ⟨by show 2 ≤ 15; decide, ⟨[x, y], rfl, by simp [n]⟩, h⟩) (h15 := by show 2 ≤ 15; decide)
theorem r_d1 {a : Str} {Q : Prop} (h : Q) : ∃ x : Key, (.str a : D) = kD x ∧ Q := ⟨.inr a, rfl, h⟩
theorem r_d2 {a c : Str} {Q : Prop} (n : a ≠ c) (h : Q) : ∃ x y : Key, (.str a : D) = kD x ∧ (.str c : D) = kD y ∧ x ≠ y ∧ Q := ⟨.inr a, .inr c, rfl, rfl, fun z => n (Sum.inr.inj z), h⟩
theorem r_small {n : Nat} {Q : Prop} (h : Nat.ble n 1000 = true) (q : Q) : n ≤ sizeLine ∧ Q := ⟨Nat.le_trans (Nat.le_of_ble_eq_true h) (by decide), q⟩
theorem r_lts {n : Nat} {Q : Prop} (h : Nat.ble n 1000 = true) (q : Q) : n < sizeLine ∧ Q := ⟨Nat.lt_of_le_of_lt (Nat.le_of_ble_eq_true h) (by decide), q⟩
theorem r_addL {xs ys : List D} (h : Nat.ble (xs.length + ys.length) 1000 = true) (q : P (.list (xs ++ ys))) : addR (.list xs) (.list ys) P := ⟨Nat.le_trans (Nat.le_of_ble_eq_true h) (by decide), q⟩
end
end DL

set_option Elab.async false
set_option linter.all false
set_option maxRecDepth 100000
set_option maxHeartbeats 2000000
/-! DL12: the end of a row whose defs hold generator expressions. -/
namespace DL
open PySem PySem.Spec L2 PySem.W PyProof.Rows
/-- what the top has left of the tables of its defs' code objects -/
def TabFacts (K : Frag) (h : Heap) (q : Program) : Prop := ∀ (x : Str) (f c P : Addr) (o : Obj) (fd : FuncData) (e : Value) (dd : Option Addr) (vs : Array Value) (sl : Array (Option Value)), ((recsOf q).any fun r => r.name == x) = true →
  nsIn K mainGlobals x = some (some (.ref f)) → K.lookup f = some o → o.data = .func fd → fd.code = .ref c → K.lookup c = some ⟨e, dd, .fields vs, sl⟩ → vs[11]? = some (.ref P) → CodeHd h c P ∧ h.get? P = some { cls := .none, data := .fields #[] }
theorem tab_facts {K : Frag} {h : Heap} {q : Program} {loose : List Str} {mean : ExcName → Option Value} {mg mb : Str → Option Value} (KX : K.In h) (T : Top q loose mean mg mb h) : TabFacts K h q := fun y f c P o1 fd1 e dd vs1 sl hrec k0 k1 k2 k3 k4 k5 => by
  obtain ⟨dL, hm, hn1⟩ := List.any_eq_true.mp hrec
  have hn2 : dL.name = y := beq_iff_eq.mp hn1
  obtain ⟨a', o', fd', c', P', h1, h2, h3, h4, h5, h6⟩ := T.tab dL hm
  rw [hn2, mg_of KX T.g k0] at h1
  cases h1
  have g1 := KX _ _ k1
  rw [g1] at h2
  cases h2
  rw [k2] at h3
  cases h3
  rw [k3] at h4
  cases h4
  have hcd := CodeHd.of h5 h6
  obtain ⟨⟨oc, vc, e1, _, e3, e4⟩, hP⟩ := h6
  have g2 := KX _ _ k4
  rw [g2] at e1
  cases e1
  cases e3
  rw [k5] at e4
  cases e4
  exact ⟨hcd, hP⟩
theorem walk_tabs {l : PySem.W.OpenLaw} {n k : Nat} {q : Program} {loose : List Str} {XP : (Str → Option Value) → Heap → Prop} {YP : World → Heap → Prop} {d : DefRec} {K : Params → Frag} {CX : World → CXT} {x : Str}
    (hn : l.most = some n) (hn2 : n ≤ sizeLine) (hdf : d.params.defaults = []) (hr : Room k callerA) (hY : ∀ (w : World) (h : Heap), YP w h → (K w.params).In h)
    (F : ∀ (w : World) (mg : Str → Option Value) (fa : Addr) (h : Heap), (K w.params).In h → h.Ns mainGlobals mg → mg d.name = some (.ref fa) → TabFacts (K w.params) h q → LamX.LawAtS l w (K w.params) (CX w) k n x mg fa h)
    (hCX : ∀ (w : World) (H : Hp) (s : Shared) (e : Value) (s' : Shared), CX w [] H s (fun _ _ _ => False) e s' → False) :
    WalkO q loose XP YP l.row.toRowW d [] (fun f vs => PySem.call f vs) := by
  refine Att.attach_callB hn hdf fun w s₀ s₁ mg mb fa o pm cd doc a vs ns G Y ho hd hcd hmg hobj hints hlen hbits hg => ?_
  have KX := hY w _ Y
  have tf : TabFacts (K w.params) s₁.heap q := tab_facts KX G.T
  obtain ⟨fd, cs, sp, hT, nT, C, hb, hsp, hF⟩ := F w mg fa _ KX G.T.g hmg tf
  exact LamX.law_callTs KX G.T.g G.T.b G.T.builtins G.T.nolimit hg hT nT C G.T.bmain hobj hints (Nat.le_trans hlen hn2) hr hF hb (fun H hH hS => hsp H a ns hlen hbits hH hS) fun H e s' => hCX w H s₁ e s'
theorem tabG0 {H : Hp} {P : Addr} (h : H P = some (.tbl #[])) : GxR.TabG H P := ⟨#[], h, trivial⟩
theorem tabX {base : Heap} {mg : Str → Option Value} {c P : Addr} (t : LamX.TabB base mg c P) : GxR.TabB base mg c P := ⟨t.code, t.bm, t.gP⟩
/-- a def as the top has left it -/
structure Left (K : Frag) (x : Str) (st : Stmt) (f c : Addr) (fd : FuncData) : Prop where
  at_ : nsIn K mainGlobals x = some (some (.ref f))
  F : FunC K x x st f c fd
theorem left_mk {K : Frag} {x : Str} {st : Stmt} {f c : Addr} {od an : Option Addr} {sl : Array (Option Value)} {oc kV dc pm ct : Value}
    (a : nsIn K mainGlobals x = some (some (.ref f))) (l : K.lookup f = some ⟨oc, od, .func (fnOf x x (defArgs st) (defBody st) (defScope st) .none kV dc pm an (.ref c) ct), sl⟩) (hc : codeIn K (.ref c) x = true) (k : keepIn K (.ref f) = true) :
    Left K x st f c (fnOf x x (defArgs st) (defBody st) (defScope st) .none kV dc pm an (.ref c) ct) :=
  ⟨a, ⟨_, _, _, _, _, _, _, _, rfl, l, hc⟩, k⟩
end DL

set_option Elab.async false
set_option linter.all false
set_option maxRecDepth 100000
set_option maxHeartbeats 2000000
/-! DL13: walks over dicts. -/
namespace DL
open PySem PySem.Spec L2
section
variable {G : Glo} {B : Hp} {O0 M O : List Addr} {L1 : List (Addr × Obj × HO)} {hs : List (Addr × HO)} {δ : Dl} {σ : L2.St} {τ : List (V × D)} {H : Hp} {a : Addr} {od : Obj} {kvs : List (Key × V)}
theorem le_lock (h : H a = some (.dK kvs)) : Le (vis O H) (vis O (upd H a (.frz od (.dK kvs)))) := by
  by_cases ha : a ∈ O
  · rw [le_mut ha]
    exact Le.refl _
  have ne : ∀ {b o}, vis O H b = some o → b ≠ a → vis O (upd H a (.frz od (.dK kvs))) b = some o := fun e n => by
    obtain ⟨hb, e⟩ := vis_some e
    rw [vis_out hb, upd_ne n]
    exact e
  have at_ : vis O (upd H a (.frz od (.dK kvs))) a = some (.frz od (.dK kvs)) := by rw [vis_out ha, upd_same]
  have old : vis O H a = some (.dK kvs) := by rw [vis_out ha]; exact h
  refine ⟨fun b xs e => ne e fun z => ?_, fun b xs e => ne e fun z => ?_, fun b ks e => ?_, fun b xs e => ?_⟩
  · rw [z, old] at e; cases e
  · rw [z, old] at e; cases e
  · by_cases z : b = a
    · rw [z] at e ⊢
      rcases e with e | ⟨o, e⟩
      · rw [old] at e; cases e; exact .inr ⟨_, at_⟩
      · rw [old] at e; cases e
    · exact e.elim (fun e => .inl (ne e z)) fun ⟨o, e⟩ => .inr ⟨o, ne e z⟩
  · by_cases z : b = a
    · rw [z] at e
      rcases e with e | ⟨o, e⟩ <;> rw [old] at e <;> cases e
    · exact e.elim (fun e => .inl (ne e z)) fun ⟨o, e⟩ => .inr ⟨o, ne e z⟩
theorem le_unlock (h : H a = some (.frz od (.dK kvs))) : Le (vis O H) (vis O (upd H a (.dK kvs))) := by
  by_cases ha : a ∈ O
  · rw [le_mut ha]
    exact Le.refl _
  have ne : ∀ {b o}, vis O H b = some o → b ≠ a → vis O (upd H a (.dK kvs)) b = some o := fun e n => by
    obtain ⟨hb, e⟩ := vis_some e
    rw [vis_out hb, upd_ne n]
    exact e
  have at_ : vis O (upd H a (.dK kvs)) a = some (.dK kvs) := by rw [vis_out ha, upd_same]
  have old : vis O H a = some (.frz od (.dK kvs)) := by rw [vis_out ha]; exact h
  refine ⟨fun b xs e => ne e fun z => ?_, fun b xs e => ne e fun z => ?_, fun b ks e => ?_, fun b xs e => ?_⟩
  · rw [z, old] at e; cases e
  · rw [z, old] at e; cases e
  · by_cases z : b = a
    · rw [z] at e ⊢
      rcases e with e | ⟨o, e⟩
      · rw [old] at e; cases e
      · rw [old] at e; cases e; exact .inl at_
    · exact e.elim (fun e => .inl (ne e z)) fun ⟨o, e⟩ => .inr ⟨o, ne e z⟩
  · by_cases z : b = a
    · rw [z] at e
      rcases e with e | ⟨o, e⟩ <;> rw [old] at e <;> cases e
    · exact e.elim (fun e => .inl (ne e z)) fun ⟨o, e⟩ => .inr ⟨o, ne e z⟩
theorem slots_le {H' : Hp} {v : V} {sl : Sl} (l : Le (vis O H) (vis O H')) (k : ∀ p ∈ O, H' p = H p) (h : SlOk G B M O H v sl) : SlOk G B M O H' v sl := by
  cases sl with
  | d d => exact Rp.mono l h
  | scr ns => obtain ⟨p, e, h⟩ := h; exact ⟨p, e, ex_seq l h⟩
  | own o =>
    obtain ⟨p, e, hp, hb, hb2, h⟩ := h
    exact ⟨p, e, hp, hb, hb2, h.le l (fun _ q => by rw [k p hp]; exact q) fun _ q => by rw [k p hp]; exact q⟩
/-- a dict is locked -/
theorem AtO.lock (I : AtO G B O0 M (L1, hs) O δ σ τ H) (ha : a ∉ O) (h : H a = some (.dK kvs)) :
    AtO G B O0 M ((a, od, .dK kvs) :: L1, hs) O δ σ τ (upd H a (.frz od (.dK kvs))) ∧ (∀ o, B a = some o → o = .dK kvs) ∧ a ∉ L1.map (·.1) := by
  have l : Le (vis O H) (vis O (upd H a (.frz od (.dK kvs)))) := le_lock h
  have nl : ∀ p ∈ L1, p.1 ≠ a := fun p hp z => by
    have q := (I.lck p hp).2
    rw [z, h] at q
    cases q
  have kO : ∀ p ∈ O, upd H a (.frz od (.dK kvs)) p = H p := fun p hp => upd_ne fun z => ha (by rw [← z]; exact hp)
  have hM : a ∉ M := fun z => ha (I.sub0 _ (I.subM _ z))
  have hB : ∀ o, B a = some o → o = .dK kvs := fun o e => by
    rcases I.gr a o hM e with q | ⟨_, _, _, q, _⟩ | ⟨_, _, q⟩ <;> rw [h] at q <;> cases q
    rfl
  refine ⟨⟨I.sub0, I.subM, I.o0, I.new, fun p hp => by rw [kO p hp]; exact I.live p hp, fun b o hb e => ?_, fun p hp => ?_, I.hidT, fun f hf => ?_, fun P hP => ?_, fun p hp => (I.tmp p hp).mono l, I.len, fun i sl e => ?_, I.sep, fun p hp => ?_, fun b o u e => ?_⟩, hB, fun z => ?_⟩
  · by_cases z : b = a
    · rw [z] at e ⊢
      rw [hB o e]
      exact .inr (.inr ⟨List.mem_cons_self, od, upd_same⟩)
    · rcases I.gr b o hb e with q | ⟨ps, ps', e1, q, t⟩ | ⟨q1, o', q⟩
      · exact .inl (by rw [upd_ne z]; exact q)
      · exact .inr (.inl ⟨ps, ps', e1, by rw [upd_ne z]; exact q, t⟩)
      · exact .inr (.inr ⟨List.mem_cons_of_mem _ q1, o', by rw [upd_ne z]; exact q⟩)
  · obtain ⟨h1, h2, h3, h4⟩ := I.hid p hp
    exact ⟨by rw [kO _ h2]; exact h1, h2, h3, h4⟩
  · obtain ⟨x, y, q⟩ := I.feeds f hf
    exact ⟨x, y, by rw [kO _ (I.sub0 _ (I.subM _ hf))]; exact q⟩
  · obtain ⟨ps, q, t⟩ := I.tabs P hP
    exact ⟨ps, by rw [upd_ne fun z => by rw [z, h] at q; cases q]; exact q, t⟩
  · obtain ⟨v, e1, q⟩ := I.slots i sl e
    exact ⟨v, e1, slots_le l kO q⟩
  · rcases List.mem_cons.mp hp with e | hp
    · rw [e]
      exact ⟨ha, upd_same⟩
    · exact ⟨(I.lck p hp).1, by rw [upd_ne (nl p hp)]; exact (I.lck p hp).2⟩
  · by_cases z : b = a
    · rw [z]
      exact .inr List.mem_cons_self
    · rw [upd_ne z] at e
      exact (I.nof b o u e).imp id (List.mem_cons_of_mem _)
  · obtain ⟨p, hp, e⟩ := List.mem_map.mp z
    exact nl p hp e
theorem gr_unlock (g : Gr M (((a, od, .dK kvs) :: L1).map (·.1)) B H) (hB : ∀ o, B a = some o → o = .dK kvs) : Gr M (L1.map (·.1)) B (upd H a (.dK kvs)) := fun b o hb e => by
  by_cases z : b = a
  · rw [z] at e ⊢
    rw [hB o e]
    exact .inl upd_same
  · rcases g b o hb e with q | ⟨ps, ps', e1, q, t⟩ | ⟨q1, o', q⟩
    · exact .inl (by rw [upd_ne z]; exact q)
    · exact .inr (.inl ⟨ps, ps', e1, by rw [upd_ne z]; exact q, t⟩)
    · exact .inr (.inr ⟨(List.mem_cons.mp q1).resolve_left z, o', by rw [upd_ne z]; exact q⟩)
theorem nof_unlock (n : ∀ b o u, H b = some (.frz o u) → B b ≠ none ∨ b ∈ ((a, od, HO.dK kvs) :: L1).map (·.1)) : ∀ b o u, upd H a (.dK kvs) b = some (.frz o u) → B b ≠ none ∨ b ∈ L1.map (·.1) := fun b o u e => by
  by_cases z : b = a
  · rw [z, upd_same] at e
    cases e
  · rw [upd_ne z] at e
    exact (n b o u e).imp id fun q => (List.mem_cons.mp q).resolve_left z
theorem AtO.unlock (I : AtO G B O0 M ((a, od, .dK kvs) :: L1, hs) O δ σ τ H) (hB : ∀ o, B a = some o → o = .dK kvs) (hn : a ∉ L1.map (·.1)) : AtO G B O0 M (L1, hs) O δ σ τ (upd H a (.dK kvs)) := by
  obtain ⟨ha, h⟩ := I.lck _ List.mem_cons_self
  have ha : a ∉ O := ha
  have h : H a = some (.frz od (.dK kvs)) := h
  have l : Le (vis O H) (vis O (upd H a (.dK kvs))) := le_unlock h
  have kO : ∀ p ∈ O, upd H a (.dK kvs) p = H p := fun p hp => upd_ne fun z => ha (by rw [← z]; exact hp)
  refine ⟨I.sub0, I.subM, I.o0, I.new, fun p hp => by rw [kO p hp]; exact I.live p hp, gr_unlock I.gr hB, fun p hp => ?_, I.hidT, fun f hf => ?_, fun P hP => ?_, fun p hp => (I.tmp p hp).mono l, I.len, fun i sl e => ?_, I.sep, fun p hp => ?_, nof_unlock I.nof⟩
  · obtain ⟨h1, h2, h3, h4⟩ := I.hid p hp
    exact ⟨by rw [kO _ h2]; exact h1, h2, h3, h4⟩
  · obtain ⟨x, y, q⟩ := I.feeds f hf
    exact ⟨x, y, by rw [kO _ (I.sub0 _ (I.subM _ hf))]; exact q⟩
  · obtain ⟨ps, q, t⟩ := I.tabs P hP
    exact ⟨ps, by rw [upd_ne fun z => by rw [z, h] at q; cases q]; exact q, t⟩
  · obtain ⟨v, e1, q⟩ := I.slots i sl e
    exact ⟨v, e1, slots_le l kO q⟩
  · obtain ⟨h1, h2⟩ := I.lck p (List.mem_cons_of_mem _ hp)
    exact ⟨h1, by rw [upd_ne fun z => hn (List.mem_map.mpr ⟨p, hp, z⟩)]; exact h2⟩
theorem Ret.unlock {v : V} {d : D} (I : Ret G B O0 M ((a, od, .dK kvs) :: L1, hs) v H d) (hB : ∀ o, B a = some o → o = .dK kvs) (hn : a ∉ L1.map (·.1)) (hM : ∀ f ∈ M, f ∈ O0) : H a = some (.frz od (.dK kvs)) ∧ Ret G B O0 M (L1, hs) v (upd H a (.dK kvs)) d := by
  obtain ⟨ha, h⟩ := I.lck _ List.mem_cons_self
  have h : H a = some (.frz od (.dK kvs)) := h
  refine ⟨h, gr_unlock I.gr hB, fun f hf => ?_, I.rp.mono (le_unlock h), fun p hp => ?_, nof_unlock I.nof⟩
  · obtain ⟨x, y, q⟩ := I.feeds f hf
    exact ⟨x, y, by rw [upd_ne fun z => ha (by rw [← z]; exact hM f hf)]; exact q⟩
  · obtain ⟨h1, h2⟩ := I.lck p (List.mem_cons_of_mem _ hp)
    exact ⟨h1, by rw [upd_ne fun z => hn (List.mem_map.mpr ⟨p, hp, z⟩)]; exact h2⟩
theorem RpK.key {H : Hp} : ∀ {kvs : List (Key × V)} {ks : List (D × D)} {i : Nat} {k : Key} {v : V}, RpK H kvs ks → kvs[i]? = some (k, v) → (ks.map (·.1))[i]? = some (kD k)
  | _, _, 0, _, _, .cons _ _, e => by cases e; rfl
  | _, _, i + 1, _, _, .cons _ r, e => RpK.key (i := i) r e
  | _, _, _, _, _, .nil, e => by simp at e
theorem rp_key {H : Hp} (k : Key) : Rp H (kV k) (kD k) := by
  cases k with
  | inl i => exact .int i
  | inr x => exact .str x
/-- a locked dict stays as it is -/
theorem AtO.stays (I : AtO G B O0 M (L1, hs) O δ σ τ H) (ha : a ∉ O) (h : H a = some (.frz od (.dK kvs))) : (a, od, .dK kvs) ∈ L1 ∨ (B a = some (.frz od (.dK kvs)) ∧ a ∉ M ∧ a ∉ L1.map (·.1)) := by
  have hM : a ∉ M := fun z => ha (I.sub0 _ (I.subM _ z))
  by_cases hm : a ∈ L1.map (·.1)
  · obtain ⟨p, hp, e1⟩ := List.mem_map.mp hm
    have e2 := (I.lck p hp).2
    rw [e1, h] at e2
    obtain ⟨p1, p2, p3⟩ := p
    cases e2
    cases e1
    exact .inl hp
  · have q := (I.nof a od _ h).resolve_right hm
    cases e : B a with
    | none => exact absurd e q
    | some o =>
      rcases I.gr a o hM e with q | ⟨_, _, _, q, _⟩ | ⟨q1, _, _⟩
      · rw [h] at q
        cases q
        exact .inr ⟨rfl, hM, hm⟩
      · rw [h] at q; cases q
      · exact absurd q1 hm
theorem AtO.kept (I : AtO G B O0 M (L1, hs) O δ σ τ H) (h : (a, od, .dK kvs) ∈ L1 ∨ (B a = some (.frz od (.dK kvs)) ∧ a ∉ M ∧ a ∉ L1.map (·.1))) : H a = some (.frz od (.dK kvs)) := by
  rcases h with hp | ⟨h, hM, hm⟩
  · exact (I.lck _ hp).2
  · rcases I.gr a _ hM h with q | ⟨_, _, e, _⟩ | ⟨q, _⟩
    · exact q
    · cases e
    · exact absurd q hm
end
section
variable {X : Cx} {Tb : List Addr} {δ : Dl} {tg : Expr} {pos px : Pos} {x : Str} {body : List Stmt} {R : Rs} {ks : List (D × D)} {B : Hp} {O0 M : List Addr} {Lk : Lks} {σ : L2.St} {τ : List (V × D)} {H : Hp} {a : Addr} {od : Obj} {kvs : List (Key × V)}
theorem keys_loop {E : Ends} {i : Nat} (I : At (GX X Tb) B O0 M Lk δ σ τ H) (hσ : σ[i]? = some (some (.ref a))) (hlen : kvs.length = ks.length) (hkey : ∀ (n : Nat) (k : Key) (v : V), kvs[n]? = some (k, v) → (ks.map (·.1))[n]? = some (kD k))
    (st : ∀ δ' σ' H', At (GX X Tb) B O0 M Lk δ' σ' τ H' → H' a = some (.frz od (.dK kvs)))
    (h : ∃ Iv : Nat → Dl → Prop, Iv 0 δ ∧ (∀ n k δ', (ks.map (·.1))[n]? = some k → Iv n δ' → wpG X Tb tg k δ' fun δ2 => wpSs X Tb body δ2 ⟨Iv (n + 1), R.rt, R.nx, Iv (n + 1)⟩) ∧ ∀ δ', Iv ks.length δ' → R.nx δ')
    (nx : ∀ σ' H', (∃ δ', At (GX X Tb) B O0 M Lk δ' σ' τ H' ∧ R.nx δ') → E.nx σ' H') (rt : ∀ v H', (∃ d, Ret (GX X Tb) B O0 M Lk v H' d ∧ R.rt d) → E.rt v H') :
    tFor (iKeys (tVar i)) (semG X tg) (semSs X body) E σ H := by
  obtain ⟨Iv, h0, hstep, hend⟩ := h
  refine ⟨.ref a, hσ, a, od, rfl, .inl ⟨kvs, st _ _ _ I, ?_⟩⟩
  refine ⟨fun n m σ H => m = ks.length - n ∧ n ≤ ks.length ∧ ∃ δ', At (GX X Tb) B O0 M Lk δ' σ τ H ∧ Iv n δ', ⟨_, rfl, Nat.zero_le _, δ, I, h0⟩, fun n m σ H ⟨em, hn, δ', I2, hv⟩ => ?_⟩
  have hz := st _ _ _ I2
  by_cases hlt : n < ks.length
  · refine .inr ⟨⟨hz, by omega⟩, fun σ' H' => ∃ δ', At (GX X Tb) B O0 M Lk δ' σ' τ H' ∧ Iv (n + 1) δ', fun σ' H' ⟨δ3, q1, q2⟩ => ⟨ks.length - (n + 1), by omega, rfl, hlt, δ3, q1, q2⟩, fun y H' hy => ?_⟩
    obtain ⟨rfl, k, v, hkv, rfl⟩ := hy
    refine hstep n (kD k) δ' (hkey n k v hkv) hv B O0 M Lk σ τ H' (kV k) (I2.pushS fun _ => rp_key k) _ (fun δ2 σ2 H2 I4 q4 => ?_)
    have q5 := q4 B O0 M Lk σ2 τ H2 I4
    refine semSs_le ?_ q5
    exact ⟨fun _ _ q => q, fun _ _ q => rt _ _ q, fun _ _ q => nx _ _ q, fun _ _ q => q⟩
  · have e : n = ks.length := by omega
    subst e
    exact .inl ⟨⟨hz, by omega⟩, nx _ _ ⟨δ', I2, hend δ' hv⟩⟩
/-- for k in d: .., d a name (slot i) -/
theorem wpS_forD (i : Nat) (hd : δ[i]? = some (some (.d (.dict ks))))
    (h : ∃ Iv : Nat → Dl → Prop, Iv 0 δ ∧ (∀ n k δ', (ks.map (·.1))[n]? = some k → Iv n δ' → wpG X Tb tg k δ' fun δ2 => wpSs X Tb body δ2 ⟨Iv (n + 1), R.rt, R.nx, Iv (n + 1)⟩) ∧ ∀ δ', Iv ks.length δ' → R.nx δ')
    (hp : PassesOwn (model X.prog X.w) X.A X.env X.xe) (hc : X.calm = true) (hN : X.N[i]? = some x := by rfl) (hv : Vis X.env.scope x := by first | exact Or.inl rfl | exact Or.inr (Or.inl rfl) | exact Or.inr (Or.inr rfl)) (h1 : (x == ("__debug__" : Str)) = false := by decide) (h2 : (x == ("__classdict__" : Str)) = false := by decide)
    (hs : ∀ v, foldedSetIterable (.Name x px) X.env v = pure v := by intro _; rfl) : wpS X Tb (.For tg (.Name x px) body [] pos) δ R := fun B O0 M Lk σ τ H I => by
  obtain ⟨L1, hs'⟩ := Lk
  obtain ⟨O, J⟩ := id I
  obtain ⟨v, hσ, rv⟩ := J.slot hd
  cases rv with
  | dic ha nd rk =>
    rename_i a kvs
    have hlen := rk.length
    have hkey : ∀ (n : Nat) (k : Key) (v : V), kvs[n]? = some (k, v) → (ks.map (·.1))[n]? = some (kD k) := fun n k v e => rk.key e
    rcases ha with ha | ⟨od, ha⟩
    · obtain ⟨hO, ha⟩ := vis_some ha
      refine sem_s (ps_lock (ps_for hp hc (pi_keys (pe_var hN hv h1 h2)) pg_sem pss_sem hs)) ⟨a, .dK kvs, ha, trivial, fun od => ?_⟩
      obtain ⟨J2, hB, hnL⟩ := J.lock (od := od) hO ha
      refine keys_loop (R := R) ⟨O, J2⟩ hσ hlen hkey (fun δ' σ' H' ⟨O', K⟩ => (K.lck _ List.mem_cons_self).2) h (fun σ' H' ⟨δ', ⟨O', K⟩, q⟩ => ?_) fun v H' ⟨d, K, q⟩ => ?_
      · exact ⟨(K.lck _ List.mem_cons_self).2, δ', ⟨O', K.unlock hB hnL⟩, q⟩
      · obtain ⟨e, K2⟩ := K.unlock hB hnL J.subM
        exact ⟨e, d, K2, q⟩
    · obtain ⟨hO, ha⟩ := vis_some ha
      have hst := J.stays hO ha
      refine sem_s (ps_for hp hc (pi_keys (pe_var hN hv h1 h2)) pg_sem pss_sem hs) ?_
      exact keys_loop (R := R) I hσ hlen hkey (fun δ' σ' H' ⟨O', K⟩ => K.kept hst) h (fun σ' H' q => q) fun v H' q => q
end
end DL

set_option Elab.async false
set_option linter.all false
set_option maxRecDepth 100000
set_option maxHeartbeats 2000000
/-! DL14: the law's own frame, its surroundings known (no repr under way, sys.modules not tracked). -/
namespace DL
open PySem PySem.Spec L2 PySem.W PyProof.Rows
/-- what is tracked when the law is entered -/
def h0 (K : Frag) (a : Addr) (ob : Obj) (xs : List V) (Ts : List Addr) : Hp := fun b => if b ∈ Ts then some (.tbl #[]) else if b = a ∧ K.lookup a = none then some (.frz ob (.lst xs)) else none
section
variable {P : Program} {w : World} {K : Frag} {mg mb : Str → Option Value} {st : Stmt} {fa c a : Addr} {fd : FuncData} {N : List Str} {x : Str} {cs : List (Addr × Addr)} {s₁ : Shared} {vs : List Value} {ns : List Int} {k : Nat}
theorem law_run (KX : K.In s₁.heap) (hns : s₁.heap.Ns mainGlobals mg) (hb : s₁.heap.Ns builtinsNs mb) (hbb : ∀ x : Str, x ≠ "__name__" → mb x = bootBuiltins x) (hlim : s₁.heap.NoLimit) (hg : s₁.gens = #[])
    (hT : ∀ p ∈ cs, s₁.heap.get? p.2 = some { cls := .none, data := .fields #[] }) (nT : ∀ p ∈ cs, K.lookup p.2 = none) (C : ∀ p ∈ cs, CodeHd s₁.heap p.1 p.2)
    (hbm : ∃ (bm : Addr) (ob : Obj), mg "__builtins__" = some (.ref bm) ∧ bm ≠ builtinsNs ∧ s₁.heap.get? bm = some ob ∧ ob.cls = .type "module" ∧ ob.dict = some builtinsNs ∧ ob.data = .plain)
    (ha : s₁.heap.get? a = some { cls := .type "list", data := .seq vs.toArray }) (hi : IntsAre vs ns) (hl : ns.length ≤ sizeLine) (hr : Room (k + 1) callerA) (F : FunC K x x st fa c fd) (S : FnScope N ["script"] (defScope st)) (hbind : ∀ (s : Shared) (u : Value), BindsTo s fd ⟨[u], []⟩ [("script", u)])
    (sysM : ∃ o, s₁.heap.get? sysModules = some o ∧ ∀ ws n, o.data ≠ .seq ws n) (sysT : sysModules ∉ cs.map (·.2))
    (hbody : ∀ (base : Heap) (H : Hp) (E : XK), K.In base → base.Ns mainGlobals mg → (∀ p ∈ cs, GxR.TabB base mg p.1 p.2) → Room k (callerA.deeper (envOfC x (defScope st) s₁.heap.objs.size fa (.ref c))) → H sysModules = none → s₁.heap.get? sysModules ≠ none →
      wpSs (cxOf CX0 P w K mg base N x (defScope st) fa (.ref c) callerA [] s₁ H E).nox (cs.map (·.2)) (defBody st) (startS ns N) { nx := fun _ => False, rt := fun d => d = .bool true }) :
    codeAny (model P w) callerA (.call (.ref fa) ⟨[.ref a], []⟩) (fun r s' => r = .ok (.ret (.bool true)) ∧ OldK s₁.heap s'.heap ∧ s'.os = s₁.os ∧ AllBare s'.gens) s₁ := by
  have rv := vals_ints hi
  obtain ⟨H, hH⟩ : ∃ H, H = h0 K a { cls := .type "list", data := .seq vs.toArray } (ns.map V.int) (cs.map (·.2)) := ⟨_, rfl⟩
  have isT : ∀ b, b ∈ cs.map (·.2) → s₁.heap.get? b = some { cls := .none, data := .fields #[] } ∧ K.lookup b = none := fun b hb => by
    obtain ⟨p, hp, rfl⟩ := List.mem_map.mp hb
    exact ⟨hT p hp, nT p hp⟩
  have aT : a ∉ cs.map (·.2) := fun z => by
    have q := (isT a z).1
    rw [ha] at q
    have : (Data.seq vs.toArray _) = Data.fields #[] := congrArg Obj.data (Option.some.inj q)
    cases this
  have cases3 : ∀ b o, H b = some o → (b ∈ cs.map (·.2) ∧ o = .tbl #[]) ∨ (b = a ∧ K.lookup a = none ∧ o = .frz { cls := .type "list", data := .seq vs.toArray } (.lst (ns.map V.int))) := fun b o e => by
    rw [hH] at e
    unfold h0 at e
    split at e
    · cases e
      exact .inl ⟨by assumption, rfl⟩
    · split at e
      · rename_i q
        cases e
        exact .inr ⟨q.1, q.2, rfl⟩
      · cases e
  have tbl : ∀ b, b ∈ cs.map (·.2) → H b = some (.tbl #[]) := fun b hb => by
    rw [hH]
    unfold h0
    rw [if_pos hb]
  -- what is not tracked
  have free : ∀ {b o}, s₁.heap.get? b = some o → (∀ ws n, o.data ≠ .seq ws n) → o.data ≠ .fields #[] → H b = none := fun {b o} e h1 h2 => by
    cases q : H b with
    | none => rfl
    | some u =>
      rcases cases3 b u q with ⟨hb, _⟩ | ⟨rfl, _, _⟩
      · rw [(isT b hb).1] at e
        cases e
        exact absurd rfl h2
      · rw [ha] at e
        cases e
        exact absurd rfl (h1 _ _)
  have freeD : ∀ {b o es ep}, s₁.heap.get? b = some o → o.data = .dict es ep → H b = none := fun e d => free e (fun _ _ z => by rw [d] at z; cases z) (fun z => by rw [d] at z; cases z)
  have freeK : ∀ {b o}, K.lookup b = some o → H b = none := fun {b o} e => by
    cases q : H b with
    | none => rfl
    | some u =>
      rcases cases3 b u q with ⟨hb, _⟩ | ⟨rfl, n, _⟩
      · rw [(isT b hb).2] at e; cases e
      · rw [n] at e; cases e
  have hok : HOk P w H s₁.heap := fun b o e => by
    rcases cases3 b o e with ⟨hb, rfl⟩ | ⟨rfl, _, rfl⟩
    · exact (isT b hb).1
    · exact ⟨ha, by rw [List.length_map]; exact hl, vs, _, rv, ha⟩
  have ns_ : ∀ {b : Addr} {m : Str → Option Value}, s₁.heap.Ns b m → (hidT s₁.heap H).Ns b m := fun ⟨o, es, ep, e, d, r⟩ => ⟨o, es, ep, hidT_get e (freeD e d), d, r⟩
  have hKb : K.In (hidT s₁.heap H) := fun b o e => hidT_get (KX b o e) (freeK e)
  have hM : L2.Mod K mg (hidT s₁.heap H) := ⟨hKb, ns_ hns, ⟨mb, ns_ hb, hbb⟩, let ⟨mc, h1, h2⟩ := hlim; ⟨mc, ns_ h1, h2⟩⟩
  have TB : ∀ p ∈ cs, GxR.TabB (hidT s₁.heap H) mg p.1 p.2 := fun p hp => by
    have gT : mainGlobals ≠ p.2 := fun z => by
      obtain ⟨o, es, ep, e, d, _⟩ := hns
      rw [z, hT p hp] at e
      cases e
      cases d
    obtain ⟨o, us, file, tf, flags, tg, inF, text, tt, e1, r1, r2, r3, r⟩ := C p hp
    obtain ⟨bm, ob, b1, b2, b3, b4, b5, b6⟩ := hbm
    have gB : bm ≠ mainGlobals := fun z => by
      obtain ⟨o, es, ep, e, d, _⟩ := hns
      rw [z, e] at b3
      cases b3
      rw [d] at b6
      cases b6
    have tB : bm ≠ p.2 := fun z => by
      rw [z, hT p hp] at b3
      cases b3
      cases b6
    refine ⟨⟨o, us, file, tf, flags, tg, inF, text, tt, hidT_get e1 (free e1 (fun _ _ z => by rw [r2] at z; cases z) fun z => ?_), r1, r2, r3, r⟩, ⟨bm, ob, b1, b2, gB, tB, hidT_get b3 (free b3 (fun _ _ z => by rw [b6] at z; cases z) fun z => by rw [b6] at z; cases z), b4, b5, b6⟩, gT⟩
    rw [r2] at z
    cases z
    simp at r3
  have hS : SqL K H a (ns.map V.int) := by
    cases hk : K.lookup a with
    | some o =>
      have e := KX a o hk
      rw [ha] at e
      cases e
      exact .inr ⟨_, vs.toArray, _, hk, rfl, rfl, rfl, by rw [List.size_toArray, hi.length]; exact hl, by simpa using rv⟩
    | none =>
      refine .inl (.inr ⟨{ cls := .type "list", data := .seq vs.toArray }, ?_⟩)
      rw [hH]
      unfold h0
      rw [if_neg aT, if_pos ⟨rfl, hk⟩]
  have hsys : H sysModules = none := by
    obtain ⟨o, e, h⟩ := sysM
    cases q : H sysModules with
    | none => rfl
    | some u =>
      rcases cases3 _ u q with ⟨hb, _⟩ | ⟨z, _, _⟩
      · exact absurd hb sysT
      · rw [z, ha] at e
        cases e
        exact absurd rfl (h _ _)
  have e0 : Env0 P w K mg (hidT s₁.heap H) callerA [] s₁ H := ⟨rfl, hM, fun b o e => of_hidT e, Nat.le_of_eq (hidT_size _ _), trivial, (fun _ z => nomatch z), hok, .of_eq hg⟩
  -- the call
  obtain ⟨oc, od, kV, doc, pm, an, ct, osl, rfl, lk, hcd⟩ := F.ex
  have hr2 : Room k (callerA.deeper (envOfC x (defScope st) s₁.heap.objs.size fa (.ref c))) := hr.deeper _
  have hkind : ∀ y ∈ [(("script" : Str), Value.ref a)], (defScope st).names.lookup y.1 = some .local ∨ ((defScope st).names.lookup y.1 = some .cell ∧ ((cellsFrom (s₁.heap.objs.size + 1) (defScope st).names []).lookup y.1).isSome = true) := fun y hy => by
    rw [List.mem_singleton.mp hy]
    rcases S.par "script" List.mem_cons_self with q | q
    · exact .inl q
    · exact .inr ⟨q, cellsFrom_some _ _ _ (.inl q)⟩
  refine codeAny_call_function hr.depth (KX _ _ lk) rfl S.co S.gen rfl (codeRec_of KX hcd) (hbind _ _ _ _ _ _ ?_)
  refine wpAny_newFunctionEnv_cells S.kind hkind fun env he s1 X1 => ?_
  subst he
  refine ⟨hlim.keeps X1.toInCall.keep, codeAny_func ?_⟩
  have I : Inv (cxOf CX0 P w K mg (hidT s₁.heap H) N x (defScope st) fa (.ref c) callerA [] s₁ H fun _ _ _ => False) [] (L2.start N [.ref a]) H s1 := inv_start (ps := ["script"]) (us := [.ref a]) S hr.hd e0 rfl (.cons rfl .nil) X1
  have e00 : vis [] H = H := by
    funext b
    rw [vis_out (by simp)]
  have lenN : 1 ≤ N.length := by have := congrArg List.length S.pre; rw [List.length_take] at this; simp at this; omega
  have IA : At ⟨K, cs.map (·.2)⟩ H [] [] ([], []) (startS ns N) (L2.start N [.ref a]) [] H := by
    refine ⟨[], fun _ h => h, (fun _ z => nomatch z), (fun _ z => nomatch z), (fun _ z => nomatch z), (fun _ z => nomatch z), Gr.refl _ _ _, (fun _ z => nomatch z), (fun _ z => nomatch z), (fun _ z => nomatch z), fun p hp => tabG0 (tbl p hp), (fun _ z => nomatch z), ?_, fun i sl e => ?_, fun i k o o' q e1 e2 e3 e4 => ?_, (fun _ z => nomatch z), fun b od u e => .inl (by rw [e]; exact fun z => nomatch z)⟩
    · unfold startS L2.start
      simp only [List.length_append, List.length_replicate, List.length_map, List.length_cons, List.length_nil]
      omega
    · cases i with
      | zero =>
        cases e
        exact ⟨.ref a, rfl, a, rfl, by rw [e00]; exact hS⟩
      | succ i =>
        exfalso
        unfold startS at e
        rw [List.getElem?_cons_succ, List.getElem?_replicate] at e
        split at e <;> cases e
    · cases i with
      | zero => cases e1
      | succ i =>
        exfalso
        unfold startS at e1
        rw [List.getElem?_cons_succ, List.getElem?_replicate] at e1
        split at e1 <;> cases e1
  have sys2 : s₁.heap.get? sysModules ≠ none := by
    obtain ⟨o, e, _⟩ := sysM
    rw [e]
    exact fun z => nomatch z
  have hb := hbody (hidT s₁.heap H) H (fun _ _ _ => False) hKb (ns_ hns) TB hr2 hsys sys2 H [] [] ([], []) _ [] H IA
  have run := (pss_sem (X := (cxOf CX0 P w K mg (hidT s₁.heap H) N x (defScope st) fa (.ref c) callerA [] s₁ H fun _ _ _ => False).nox) (sts := defBody st)).nox.run [] s1 (L2.start N [.ref a]) H { nx := fun _ _ => False, rt := fun v _ => v = .bl true } I (semSs_le ⟨fun σ' H' h => ?_, fun v H' h => ?_, fun _ _ h => ?_, fun _ _ h => ?_⟩ hb)
  · refine wpAny_mono run (fun fl s' hs => ?_) fun e s' hs => ?_
    · cases fl with
      | ret u =>
        obtain ⟨v, σ', H', J, ru, hv⟩ := hs
        subst hv
        obtain rfl : u = Value.bool true := ru
        have un := J.base
        refine ⟨rfl, ⟨fun b o e => ?_, fun b o e => ?_⟩, J.os, J.bare⟩
        · cases q : H b with
          | none => exact .inl (un.keep b o e q (fun z => nomatch z) (fun z => nomatch z))
          | some u =>
            rcases cases3 b u q with ⟨hb, rfl⟩ | ⟨rfl, _, rfl⟩
            · rw [(isT b hb).1] at e
              cases e
              obtain ⟨more, z⟩ := un.tbls b #[] q
              obtain ⟨p, hp, rfl⟩ := List.mem_map.mp hb
              exact .inr (.inl ⟨((C p hp).tab (hT p hp)).isCodeTable, rfl, #[], _, rfl, J.hok _ _ z⟩)
            · obtain ⟨e2, _⟩ := J.hok b _ (un.frzs b _ _ q)
              rw [ha] at e
              cases e
              exact .inl e2
        · exact un.there b o e (fun z => nomatch z)
      | next => obtain ⟨_, _, _, q⟩ := hs; exact q.elim
      | brk => obtain ⟨_, _, _, q⟩ := hs; exact q.elim
      | cont => obtain ⟨_, _, _, q⟩ := hs; exact q.elim
    · exact wpAny_mono hs (fun _ _ h => (show False from h).elim) fun _ _ h => (show False from h).elim
  · obtain ⟨_, _, h⟩ := h
    exact h
  · obtain ⟨d, J, h⟩ := h
    have q := J.rp
    rw [h] at q
    exact q.bool'
  · obtain ⟨_, _, h⟩ := h
    exact h
  · obtain ⟨_, _, h⟩ := h
    exact h
/-- what is to be shown of a law -/
def LawG (l : OpenLaw) (w : World) (K : Frag) (k n : Nat) (mg : Str → Option Value) (fa : Addr) (h : Heap) : Prop :=
  ∃ (fd : FuncData) (cs : List (Addr × Addr)) (x : Str) (st : Stmt) (c : Addr) (N : List Str), (∀ p ∈ cs, h.get? p.2 = some { cls := .none, data := .fields #[] }) ∧ (∀ p ∈ cs, K.lookup p.2 = none) ∧ (∀ p ∈ cs, CodeHd h p.1 p.2) ∧ (∀ (s : Shared) (u : Value), BindsTo s fd ⟨[u], []⟩ [("script", u)]) ∧
    FunC K x x st fa c fd ∧ FnScope N ["script"] (defScope st) ∧
    ∀ (base : Heap) (s : Shared) (H : Hp) (E : XK) (ns : List Int), ns.length ≤ n → K.In base → base.Ns mainGlobals mg → (∀ p ∈ cs, GxR.TabB base mg p.1 p.2) → Room k (callerA.deeper (envOfC x (defScope st) s.heap.objs.size fa (.ref c))) → H sysModules = none → s.heap.get? sysModules ≠ none →
      wpSs (cxOf CX0 l.prog w K mg base N x (defScope st) fa (.ref c) callerA [] s H E).nox (cs.map (·.2)) (defBody st) (startS ns N) { nx := fun _ => False, rt := fun d => d = .bool true }
theorem walk_G {l : OpenLaw} {n k : Nat} {q : Program} {loose : List Str} {XP : (Str → Option Value) → Heap → Prop} {YP : World → Heap → Prop} {d : DefRec} {K : Params → Frag}
    (hn : l.most = some n) (hn2 : n ≤ sizeLine) (hdf : d.params.defaults = []) (hr : Room (k + 1) callerA) (hi : importsNone q = true) (hY : ∀ (w : World) (h : Heap), YP w h → (K w.params).In h)
    (F : ∀ (w : World) (mg : Str → Option Value) (fa : Addr) (h : Heap), (K w.params).In h → h.Ns mainGlobals mg → mg d.name = some (.ref fa) → TabFacts (K w.params) h q → LawG l w (K w.params) k n mg fa h) :
    WalkO q loose XP YP l.row.toRowW d [] (fun f vs => PySem.call f vs) := by
  refine Att.attach_callB hn hdf fun w s₀ s₁ mg mb fa o pm cd doc a vs ns G Y ho hd hcd hmg hobj hints hlen hbits hg => ?_
  have KX := hY w _ Y
  obtain ⟨fd, cs, x, st, c, N, hT, nT, C, hb, hF, hS, body⟩ := F w mg fa _ KX G.T.g hmg (tab_facts KX G.T)
  have sysM : ∃ o, s₁.heap.get? sysModules = some o ∧ (∀ ws n, o.data ≠ .seq ws n) ∧ o.data ≠ .fields #[] := by
    obtain ⟨_, ⟨o, es, ep, e, d, _⟩, _⟩ := (G.T.seer hi).mods
    exact ⟨o, e, (fun _ _ z => by rw [d] at z; cases z), fun z => by rw [d] at z; cases z⟩
  obtain ⟨os, e1, e2, e3⟩ := sysM
  refine law_run KX G.T.g G.T.b G.T.builtins G.T.nolimit hg hT nT C G.T.bmain hobj hints (Nat.le_trans hlen hn2) hr hF hS hb ⟨os, e1, e2⟩ (fun z => ?_) fun base H E k1 k2 k3 k4 k5 k6 => body base s₁ H E ns hlen k1 k2 k3 k4 k5 k6
  obtain ⟨p, hp, e⟩ := List.mem_map.mp z
  rw [← e, hT p hp] at e1
  cases e1
  exact e3 rfl
end
end DL

set_option Elab.async false
set_option linter.all false
set_option maxRecDepth 100000
set_option maxHeartbeats 2000000
/-! DL15: repr of data. -/
namespace DL
open PySem PySem.Spec L2
section
variable {X : Cx} {pins : List (Addr × Obj)} {σ : L2.St} {H : Hp} {s : Shared}
theorem key_reads {h : Heap} {k : Key} {v : Value} (e : keyIs k v = true) : Reads h v (kD k) [] := by
  rcases keyIs_shape e with ⟨i, t, rfl, rfl⟩ | ⟨y, t, rfl, rfl⟩
  · exact .int i t
  · exact .str y t
theorem keys_reads {P : Program} {w : World} {h : Heap} : ∀ {es : List DictEntry} {kvs : List (Key × Value)}, Pairs (mixKind P w) es kvs → ReadsAll h (es.map (·.key)) (kvs.map fun q => kD q.1) [] ∧ es.map (·.val) = kvs.map (·.2)
  | _, _, .nil => ⟨.nil, rfl⟩
  | _, _, .cons h1 h2 r => by
    obtain ⟨a, b⟩ := keys_reads (h := h) r
    exact ⟨.cons (key_reads h1) a, by rw [List.map_cons, List.map_cons, h2, b]⟩
theorem kv_keys : ∀ {kvs : List (Key × V)} {vs : List (Key × Value)}, KV kvs vs → vs.map (·.1) = kvs.map (·.1)
  | _, _, .nil => rfl
  | _, _, .cons h r => by rw [List.map_cons, List.map_cons, h.1, kv_keys r]
theorem kv_vals : ∀ {kvs : List (Key × V)} {vs : List (Key × Value)}, KV kvs vs → Vals (kvs.map (·.2)) (vs.map (·.2))
  | _, _, .nil => .nil
  | _, _, .cons h r => .cons h.2 (kv_vals r)
theorem RpK.keysD {H : Hp} : ∀ {kvs : List (Key × V)} {ks : List (D × D)}, RpK H kvs ks → ks.map (·.1) = kvs.map fun q => kD q.1
  | _, _, .nil => rfl
  | _, _, .cons _ r => by rw [List.map_cons, List.map_cons, RpK.keysD r]
theorem RpK.valsD {H : Hp} : ∀ {kvs : List (Key × V)} {ks : List (D × D)}, RpK H kvs ks → RpA H (kvs.map (·.2)) (ks.map (·.2))
  | _, _, .nil => .nil
  | _, _, .cons h r => .cons h (RpK.valsD r)
mutual
theorem Rp.reads (I : Inv X pins σ H s) (nS : H sysModules = none) : ∀ (d : D) (v : V) (u : Value), Rp H v d → RelV v u → ∃ as, Reads s.heap u d as ∧ sysModules ∉ as
  | .none, _, _, h, r => by
    cases h
    cases r
    exact ⟨[], .none, by simp⟩
  | .bool b, _, _, h, r => by
    cases h
    cases r
    exact ⟨[], .bool b, by simp⟩
  | .int i, _, _, h, r => by
    cases h
    obtain ⟨t, rfl⟩ := r
    exact ⟨[], .int i t, by simp⟩
  | .str y, _, _, h, r => by
    cases h
    obtain ⟨t, rfl⟩ := r
    exact ⟨[], .str y t, by simp⟩
  | .list ds, _, _, h, r => by
    cases h with
    | @lst a xs _ ha hx =>
      cases r
      obtain ⟨its, rv, ⟨o, n, ho, hc, _, hd⟩, _⟩ := I.list (.inl (.inl ha))
      obtain ⟨as, hr, ns⟩ := RpA.reads I nS ds xs its hx rv
      exact ⟨_, .list ho hc hd hr, fun z => (List.mem_cons.mp z).elim (fun z => by rw [← z, nS] at ha; cases ha) ns⟩
  | .tuple ds, _, _, h, r => by
    cases h with
    | @tup a xs _ ha hx =>
      cases r
      obtain ⟨its, rv, ⟨o, ho, hc, n, hd⟩, _⟩ := I.tuple (.inl (.inl ha))
      obtain ⟨as, hr, ns⟩ := RpA.reads I nS ds xs its hx rv
      exact ⟨_, .tuple ho hc hd hr, ns⟩
  | .dict ks, _, _, h, r => by
    cases h with
    | @dic a kvs _ ha nd hk =>
      cases r
      obtain ⟨_, hsys, vs, kv, o, es, ep, ho, hx, hd, _, hp, _⟩ := dk_rd I.hok ha
      obtain ⟨q1, q2⟩ := keys_reads (h := s.heap) hp
      obtain ⟨bs, hr, ns⟩ := RpK.reads I nS ks kvs (vs.map (·.2)) hk (kv_vals kv)
      have e1 : vs.map (fun q => kD q.1) = ks.map (·.1) := by
        rw [hk.keysD]
        have := kv_keys kv
        have h2 := congrArg (List.map kD) this
        rw [List.map_map, List.map_map] at h2
        exact h2
      rw [e1] at q1
      rw [← q2] at hr
      refine ⟨_, .dict ho hx.1 hd q1 hr, fun z => ?_⟩
      rcases List.mem_append.mp z with z | z
      · rcases List.mem_cons.mp z with z | z
        · rw [← z] at hsys
          exact absurd hsys (by decide)
        · cases z
      · exact ns z
termination_by d => sizeOf d
theorem RpA.reads (I : Inv X pins σ H s) (nS : H sysModules = none) : ∀ (ds : List D) (vs : List V) (us : List Value), RpA H vs ds → Vals vs us → ∃ as, ReadsAll s.heap us ds as ∧ sysModules ∉ as
  | [], _, _, h, r => by
    cases h
    cases r
    exact ⟨[], .nil, by simp⟩
  | d :: ds, _, _, h, r => by
    cases h with
    | cons h1 h2 =>
      cases r with
      | cons r1 r2 =>
        obtain ⟨as, q1, n1⟩ := Rp.reads I nS d _ _ h1 r1
        obtain ⟨bs, q2, n2⟩ := RpA.reads I nS ds _ _ h2 r2
        exact ⟨_, .cons q1 q2, fun z => (List.mem_append.mp z).elim n1 n2⟩
termination_by ds => sizeOf ds
theorem RpK.reads (I : Inv X pins σ H s) (nS : H sysModules = none) : ∀ (ks : List (D × D)) (kvs : List (Key × V)) (us : List Value), RpK H kvs ks → Vals (kvs.map (·.2)) us → ∃ as, ReadsAll s.heap us (ks.map (·.2)) as ∧ sysModules ∉ as
  | [], _, _, h, r => by
    cases h
    cases r
    exact ⟨[], .nil, by simp⟩
  | (k, d) :: ks, _, _, h, r => by
    cases h with
    | cons h1 h2 =>
      cases r with
      | cons r1 r2 =>
        obtain ⟨as, q1, n1⟩ := Rp.reads I nS d _ _ h1 r1
        obtain ⟨bs, q2, n2⟩ := RpK.reads I nS ks _ _ h2 r2
        exact ⟨_, .cons q1 q2, fun z => (List.mem_append.mp z).elim n1 n2⟩
termination_by ks => sizeOf ks
end
end
section
variable {X : Cx} {Tb : List Addr}
def rReprD : List V → Hp → VK → Prop := fun xs H Q => ∃ a d, xs = [.ref a] ∧ Rp H (.ref a) d ∧ d.showable = true ∧ d.depth ≤ 64 ∧ d.shown.length ≤ sizeLine ∧ Q (.str d.shown) H
theorem call_reprD (hg : X.A.guards = some []) (hu : X.A.units + 80 < cLine) (h0 : X.H_0 sysModules = none) (h1 : X.s_0.heap.get? sysModules ≠ none) (hex : X.ex = []) : CallR X (.builtin "repr") rReprD := by
  intro pins s σ H xs us Q I r h
  obtain ⟨a, d, rfl, rp, hs, hd, hz, q⟩ := h
  obtain ⟨u, rfl, r1⟩ := vals1 r
  cases (show u = Value.ref a from r1)
  have nS : H sysModules = none := by
    cases e : X.s_0.heap.get? sysModules with
    | none => exact absurd e h1
    | some o => exact I.base.free _ _ e h0 (by rw [hex]; simp)
  obtain ⟨as, rd, ns⟩ := Rp.reads I nS d _ _ rp rfl
  exact repr_of_reads' rd hs (fun _ => ns) hg (by omega) (fun _ _ e => e) (fun h' u tk k => ⟨.str d.shown, H, I.kept k, ⟨u, rfl⟩, q⟩) hz
def reprR : List D → (D → Prop) → Prop
  | [.list ds], P => (PyData.showable (.list ds) = true ∧ PyData.depth (.list ds) ≤ 64 ∧ (PyData.shown (.list ds)).length ≤ sizeLine) ∧ P (.str (PyData.shown (.list ds)))
  | [.tuple ds], P => (PyData.showable (.tuple ds) = true ∧ PyData.depth (.tuple ds) ≤ 64 ∧ (PyData.shown (.tuple ds)).length ≤ sizeLine) ∧ P (.str (PyData.shown (.tuple ds)))
  | _, _ => False
theorem ok_repr : OkC X Tb rReprD reprR := by
  intro B O0 M Lk O δ σ τ H vs ds P I r h Q q
  unfold reprR at h
  split at h
  · obtain ⟨v, rfl, rv⟩ := r.one'
    obtain ⟨a, xs, rfl, ha, ra⟩ := rv.list'
    exact ⟨a, _, rfl, (Rp.lst ha ra).mono vis_all, h.1.1, h.1.2.1, h.1.2.2, q _ _ H ⟨O, I.push (.str _)⟩ h.2⟩
  · obtain ⟨v, rfl, rv⟩ := r.one'
    obtain ⟨a, xs, rfl, ha, ra⟩ := rv.tuple'
    exact ⟨a, _, rfl, (Rp.tup ha ra).mono vis_all, h.1.1, h.1.2.1, h.1.2.2, q _ _ H ⟨O, I.push (.str _)⟩ h.2⟩
  · exact h.elim
theorem boot_repr' : bootBuiltins "repr" = some (.builtin "repr") := by decide +kernel
end
end DL

set_option Elab.async false
set_option linter.all false
set_option maxRecDepth 100000
set_option maxHeartbeats 2000000
/-! DL16: dicts of the frame's own. -/
namespace DL
open PySem PySem.Spec L2
section
variable {X : Cx} {Tb : List Addr} {δ : Dl} {a b c e o i : Expr} {es : List Expr} {pos pos' p : Pos} {P P' : D → Prop} {st : Stmt} {sts : List Stmt} {R R' : Rs}
theorem AtO.ownD {G : Glo} {B : Hp} {O0 M O : List Addr} {Lk : Lks} {σ : L2.St} {τ : List (V × D)} {H : Hp} {kvs : List (Key × V)} {ks : List (D × D)} {q : Addr} {j : Nat} (I : AtO G B O0 M Lk O δ σ τ H) (hq : H q = none) (nd : (kvs.map (·.1)).Nodup) (r : RpK (vis O H) kvs ks) :
    AtO G B O0 M Lk (q :: O) (δ.set j (some (.own (.dic ks)))) (σ.set j (some (.ref q))) τ (upd H q (.dK kvs)) := by
  obtain ⟨J, hn⟩ := I.alloc (o := .dK kvs) hq
  have hB : B q = none := by
    cases e : B q with
    | none => rfl
    | some u =>
      have hM : q ∉ M := fun z => hn (I.sub0 _ (I.subM _ z))
      rcases I.gr q u hM e with h | ⟨_, _, _, h, _⟩ | ⟨_, _, h⟩ <;> rw [hq] at h <;> cases h
  have ve : vis (q :: O) (upd H q (.dK kvs)) = vis O H := by
    funext a
    by_cases ha : a = q
    · subst ha
      rw [vis_in List.mem_cons_self, vis_out hn, hq]
    · by_cases ho : a ∈ O
      · rw [vis_in (List.mem_cons_of_mem _ ho), vis_in ho]
      · rw [vis_out (by simp [ha, ho]), vis_out ho, upd_ne ha]
  have hlen : (δ.set j (some (.own (.dic ks)))).length = (σ.set j (some (.ref q))).length := by rw [List.length_set, List.length_set]; exact I.len
  have oldref : ∀ (i : Nat) (o : OD), δ[i]? = some (some (.own o)) → σ[i]? ≠ some (some (.ref q)) := fun i o e z => by
    obtain ⟨v, h1, p, rfl, h2, _⟩ := I.slots i _ e
    rw [z] at h1
    have : V.ref q = V.ref p := Option.some.inj (Option.some.inj h1)
    exact hn (by rw [V.ref.inj this]; exact h2)
  refine ⟨fun p hp => List.mem_cons_of_mem _ (I.sub0 p hp), I.subM, I.o0, fun p hp => ?_, fun p hp => ?_, J.gr, fun p hp => ?_, I.hidT, J.feeds, J.tabs, fun p hp => by rw [ve]; exact I.tmp p hp, hlen, fun i sl e => ?_, fun i k o o' p e1 e2 e3 e4 => ?_, fun p hp => ⟨fun z => (List.mem_cons.mp z).elim (fun z => by have h := (I.lck p hp).2; rw [z, hq] at h; cases h) (I.lck p hp).1, by rw [upd_ne fun z => by have h := (I.lck p hp).2; rw [z, hq] at h; cases h]; exact (I.lck p hp).2⟩, J.nof⟩
  · rcases List.mem_cons.mp hp with e | hp
    · exact .inr (by rw [e]; exact hB)
    · exact I.new p hp
  · rcases List.mem_cons.mp hp with e | hp
    · rw [e, upd_same]
      exact fun z => nomatch z
    · exact J.live p hp
  · obtain ⟨h1, h2, h3, h4⟩ := I.hid p hp
    have np : p.1 ≠ q := fun z => hn (by rw [← z]; exact h2)
    refine ⟨by rw [upd_ne np]; exact h1, List.mem_cons_of_mem _ h2, h3, fun i o e => ?_⟩
    by_cases hj : j = i
    · subst hj
      have hlt : j < δ.length := by
        have := (List.getElem?_eq_some_iff.mp e).1
        rwa [List.length_set] at this
      rw [List.getElem?_set_self (by rw [← I.len]; exact hlt)]
      exact fun z => np (V.ref.inj (Option.some.inj (Option.some.inj z))).symm
    · rw [List.getElem?_set_ne hj] at e ⊢
      exact h4 i o e
  · by_cases hj : j = i
    · subst hj
      have hlt : j < δ.length := by
        have := (List.getElem?_eq_some_iff.mp e).1
        rwa [List.length_set] at this
      rw [List.getElem?_set_self hlt] at e
      cases e
      exact ⟨.ref q, by rw [List.getElem?_set_self (by rw [← I.len]; exact hlt)], q, rfl, List.mem_cons_self, .inr hB, .inr hB, kvs, upd_same, nd, by rw [ve]; exact r⟩
    · rw [List.getElem?_set_ne hj] at e
      obtain ⟨u, h1, h2⟩ := I.slots i sl e
      refine ⟨u, by rw [List.getElem?_set_ne hj]; exact h1, ?_⟩
      cases sl with
      | d d =>
        show Rp (vis (q :: O) _) u d
        rw [ve]
        exact h2
      | scr ns =>
        obtain ⟨a, e2, h2⟩ := h2
        refine ⟨a, e2, ?_⟩
        rw [ve]
        exact h2
      | own o =>
        obtain ⟨p, e2, hp, hb, hb2, h2⟩ := h2
        refine ⟨p, e2, List.mem_cons_of_mem _ hp, hb, hb2, ?_⟩
        have np : p ≠ q := fun z => hn (by rw [← z]; exact hp)
        cases o with
        | feed => obtain ⟨a, b, h2⟩ := h2; exact ⟨a, b, by rw [upd_ne np]; exact h2⟩
        | lst ds => obtain ⟨ys, h2, h3⟩ := h2; exact ⟨ys, by rw [upd_ne np]; exact h2, by rw [ve]; exact h3⟩
        | dic ks => obtain ⟨ys, h2, h4, h3⟩ := h2; exact ⟨ys, by rw [upd_ne np]; exact h2, h4, by rw [ve]; exact h3⟩
  · by_cases h1 : j = i
    · by_cases h2 : j = k
      · exact h1.symm.trans h2
      · subst h1
        have hlt : j < δ.length := by
          have := (List.getElem?_eq_some_iff.mp e1).1
          rwa [List.length_set] at this
        rw [List.getElem?_set_self (by rw [← I.len]; exact hlt)] at e3
        have ep : q = p := V.ref.inj (Option.some.inj (Option.some.inj e3))
        rw [List.getElem?_set_ne h2] at e2 e4
        exact (oldref k o' e2 (by rw [ep]; exact e4)).elim
    · rw [List.getElem?_set_ne h1] at e1 e3
      by_cases h2 : j = k
      · subst h2
        have hlt : j < δ.length := by
          have := (List.getElem?_eq_some_iff.mp e2).1
          rwa [List.length_set] at this
        rw [List.getElem?_set_self (by rw [← I.len]; exact hlt)] at e4
        have ep : q = p := V.ref.inj (Option.some.inj (Option.some.inj e4))
        exact (oldref i o e1 (by rw [ep]; exact e3)).elim
      · rw [List.getElem?_set_ne h2] at e2 e4
        exact I.sep i k o o' p e1 e2 e3 e4

theorem AtO.thawD {G : Glo} {B : Hp} {O0 M O : List Addr} {Lk : Lks} {σ : L2.St} {τ : List (V × D)} {H : Hp} {ks : List (D × D)} {j : Nat} (I : AtO G B O0 M Lk O δ σ τ H) (hj : δ[j]? = some (some (.own (.dic ks)))) : ∃ O', AtO G B O0 M Lk O' (δ.set j (some (.d (.dict ks)))) σ τ H := by
  obtain ⟨v, hv, p, rfl, hp, _, hb2, kvs, hx, nd, r⟩ := I.slots j _ hj
  have hB : B p = none := hb2.elim (fun z => by cases z) id
  have memO : ∀ {a}, a ∈ O.filter (fun a => decide (a ≠ p)) ↔ a ∈ O ∧ a ≠ p := fun {a} => by simp
  have le : Le (vis O H) (vis (O.filter (fun a => decide (a ≠ p))) H) := vis_le fun a ha => (memO.mp ha).1
  have hlt : j < δ.length := (List.getElem?_eq_some_iff.mp hj).1
  refine ⟨O.filter (fun a => decide (a ≠ p)), fun a ha => memO.mpr ⟨I.sub0 a ha, fun z => I.o0 a ha (by rw [z]; exact hB)⟩, I.subM, I.o0, fun a ha => I.new a (memO.mp ha).1, fun a ha => I.live a (memO.mp ha).1, I.gr, fun q hq => ?_, I.hidT, I.feeds, I.tabs, fun q hq => (I.tmp q hq).mono le,
    by rw [List.length_set]; exact I.len, fun i sl e => ?_, fun i k o o' q e1 e2 e3 e4 => ?_, fun q hq => ⟨fun z => (I.lck q hq).1 (memO.mp z).1, (I.lck q hq).2⟩, I.nof⟩
  · obtain ⟨h1, h2, h3, h4⟩ := I.hid q hq
    refine ⟨h1, memO.mpr ⟨h2, fun z => h4 j _ hj (by rw [z]; exact hv)⟩, h3, fun i o e => ?_⟩
    by_cases h5 : j = i
    · subst h5
      rw [List.getElem?_set_self hlt] at e
      cases e
    · rw [List.getElem?_set_ne h5] at e
      exact h4 i o e
  · by_cases h1 : j = i
    · subst h1
      rw [List.getElem?_set_self hlt] at e
      cases e
      refine ⟨.ref p, hv, .dic (.inl ?_) nd (r.mono le)⟩
      rw [vis_out fun z => (memO.mp z).2 rfl]
      exact hx
    · rw [List.getElem?_set_ne h1] at e
      obtain ⟨u, h2, h3⟩ := I.slots i sl e
      refine ⟨u, h2, ?_⟩
      cases sl with
      | d d => exact Rp.mono le h3
      | scr ns => obtain ⟨a, e2, h3⟩ := h3; exact ⟨a, e2, ex_seq le h3⟩
      | own o =>
        obtain ⟨a, e2, ha, hb, hb2, h3⟩ := h3
        have na : a ≠ p := fun z => h1 (I.sep j i _ o p hj e hv (by rw [h2, e2, z]))
        refine ⟨a, e2, memO.mpr ⟨ha, na⟩, hb, hb2, ?_⟩
        cases o with
        | feed => exact h3
        | lst ds => obtain ⟨zs, h4, h5⟩ := h3; exact ⟨zs, h4, h5.mono le⟩
        | dic ks => obtain ⟨zs, h4, h6, h5⟩ := h3; exact ⟨zs, h4, h6, h5.mono le⟩
  · have n : ∀ {i o}, (δ.set j (some (.d (.dict ks))))[i]? = some (some (Sl.own o)) → j ≠ i := fun {i o} e z => by
      subst z
      rw [List.getElem?_set_self hlt] at e
      cases e
    rw [List.getElem?_set_ne (n e1)] at e1
    rw [List.getElem?_set_ne (n e2)] at e2
    exact I.sep i k o o' q e1 e2 e3 e4

theorem AtO.mutD {G : Glo} {B : Hp} {O0 M O : List Addr} {Lk : Lks} {σ : L2.St} {τ : List (V × D)} {H : Hp} {ds es : List (D × D)} {ys : List (Key × V)} {j : Nat} {p : Addr} (I : AtO G B O0 M Lk O δ σ τ H) (hj : δ[j]? = some (some (.own (.dic ds)))) (hp : σ[j]? = some (some (.ref p))) (nd : (ys.map (·.1)).Nodup) (r : RpK (vis O H) ys es) :
    AtO G B O0 M Lk O (δ.set j (some (.own (.dic es)))) σ τ (upd H p (.dK ys)) := by
  obtain ⟨v, hv, p', rfl, hpO, _, hb2, xs, hx, _, _⟩ := I.slots j _ hj
  obtain rfl : p = p' := V.ref.inj (Option.some.inj (Option.some.inj (hp.symm.trans hv)))
  have hB : B p = none := hb2.elim (fun z => by cases z) id
  have hM : p ∉ M := fun z => I.o0 p (I.subM p z) hB
  have ve : vis O (upd H p (.dK ys)) = vis O H := le_mut hpO
  have hlt : j < δ.length := (List.getElem?_eq_some_iff.mp hj).1
  refine ⟨I.sub0, I.subM, I.o0, I.new, fun a ha => ?_, I.gr.mut (.inr hB), fun q hq => ?_, I.hidT, fun f hf => ?_, fun P hP => ?_, fun q hq => by rw [ve]; exact I.tmp q hq, by rw [List.length_set]; exact I.len, fun i sl e => ?_, fun i k o o' q e1 e2 e3 e4 => ?_, fun q hq => ⟨(I.lck q hq).1, by rw [upd_ne fun z => (I.lck q hq).1 (by rw [z]; exact hpO)]; exact (I.lck q hq).2⟩, fun a od u e => by
    by_cases h : a = p
    · rw [h, upd_same] at e; cases e
    · rw [upd_ne h] at e; exact I.nof a od u e⟩
  · by_cases h1 : a = p
    · rw [h1, upd_same]
      exact fun z => nomatch z
    · rw [upd_ne h1]
      exact I.live a ha
  · obtain ⟨h1, h2, h3, h4⟩ := I.hid q hq
    have nq : q.1 ≠ p := fun z => h4 j _ hj (by rw [z]; exact hv)
    refine ⟨by rw [upd_ne nq]; exact h1, h2, h3, fun i o e => ?_⟩
    by_cases h5 : j = i
    · subst h5
      exact h4 j _ hj
    · rw [List.getElem?_set_ne h5] at e
      exact h4 i o e
  · obtain ⟨a, b, h1⟩ := I.feeds f hf
    exact ⟨a, b, by rw [upd_ne fun z => hM (by rw [← z]; exact hf)]; exact h1⟩
  · obtain ⟨qs, h1, h2⟩ := I.tabs P hP
    refine ⟨qs, ?_, h2⟩
    rw [upd_ne fun z => ?_]
    · exact h1
    · rw [z, hx] at h1
      cases h1
  · by_cases h1 : j = i
    · subst h1
      rw [List.getElem?_set_self hlt] at e
      cases e
      exact ⟨.ref p, hv, p, rfl, hpO, .inr hB, .inr hB, ys, upd_same, nd, by rw [ve]; exact r⟩
    · rw [List.getElem?_set_ne h1] at e
      obtain ⟨u, h2, h3⟩ := I.slots i sl e
      refine ⟨u, h2, ?_⟩
      cases sl with
      | d d =>
        show Rp (vis O _) u d
        rw [ve]
        exact h3
      | scr ns =>
        obtain ⟨a, e2, h3⟩ := h3
        refine ⟨a, e2, ?_⟩
        rw [ve]
        exact h3
      | own o =>
        obtain ⟨a, e2, ha, hb, hb2, h3⟩ := h3
        have na : a ≠ p := fun z => h1 (I.sep j i _ o p hj e hv (by rw [h2, e2, z]))
        refine ⟨a, e2, ha, hb, hb2, h3.le (by rw [ve]; exact Le.refl _) (fun _ q => by rw [upd_ne na]; exact q) fun _ q => by rw [upd_ne na]; exact q⟩
  · have n : ∀ {i : Nat} {o}, (δ.set j (some (.own (.dic es))))[i]? = some (some (Sl.own o)) → ∃ o, δ[i]? = some (some (Sl.own o)) := fun {i o} e => by
      by_cases h1 : j = i
      · subst h1
        exact ⟨_, hj⟩
      · rw [List.getElem?_set_ne h1] at e
        exact ⟨_, e⟩
    obtain ⟨o1, e1⟩ := n e1
    obtain ⟨o2, e2⟩ := n e2
    exact I.sep i k o1 o2 q e1 e2 e3 e4

/-- a put, over any values -/
def putA {α : Type} (ks : List (Key × α)) (k : Key) (v : α) : List (Key × α) :=
  if (ks.any fun kv => decide (kv.1 = k)) = true then ks.map (fun kv => if kv.1 = k then (kv.1, v) else kv) else ks ++ [(k, v)]
theorem kD_inj {a b : Key} (h : kD a = kD b) : a = b := by
  cases a <;> cases b <;> simp only [kD] at h <;> cases h <;> rfl
def asD (ks : List (Key × D)) : List (D × D) := ks.map fun q => (kD q.1, q.2)
theorem rpk_keys {H : Hp} : ∀ {kvs : List (Key × V)} {ks : List (Key × D)}, RpK H kvs (asD ks) → kvs.map (·.1) = ks.map (·.1)
  | [], [], _ => rfl
  | (k, v) :: kvs, (k', d) :: ks, h => by
    unfold asD at h
    rw [List.map_cons] at h
    generalize hk : (kD k', d) = q at h
    cases h with
    | cons h r =>
      have e := kD_inj (Prod.mk.inj hk).1
      rw [List.map_cons, List.map_cons, rpk_keys (ks := ks) r, e]
  | [], (k, d) :: ks, h => by unfold asD at h; rw [List.map_cons] at h; cases h
  | (k, v) :: kvs, [], h => by unfold asD at h; cases h
theorem rpk_cons {H : Hp} {k : Key} {v : V} {kvs : List (Key × V)} {k' : Key} {d : D} {ks : List (Key × D)} (h : RpK H ((k, v) :: kvs) (asD ((k', d) :: ks))) : k = k' ∧ Rp H v d ∧ RpK H kvs (asD ks) := by
  unfold asD at h
  rw [List.map_cons] at h
  generalize hk : (kD k', d) = q at h
  cases h with
  | cons h r =>
    obtain ⟨e1, e2⟩ := Prod.mk.inj hk
    rw [e2]
    exact ⟨(kD_inj e1).symm, h, r⟩
theorem rpk_app {H : Hp} : ∀ {kvs : List (Key × V)} {ks : List (Key × D)} {k : Key} {v : V} {d : D}, RpK H kvs (asD ks) → Rp H v d → RpK H (kvs ++ [(k, v)]) (asD (ks ++ [(k, d)]))
  | [], [], _, _, _, _, r => .cons r .nil
  | (k, v) :: kvs, (k', d) :: ks, _, _, _, h, r => by
    obtain ⟨rfl, h1, h2⟩ := rpk_cons h
    exact .cons h1 (rpk_app h2 r)
  | [], (k, d) :: ks, _, _, _, h, _ => by unfold asD at h; rw [List.map_cons] at h; cases h
  | (k, v) :: kvs, [], _, _, _, h, _ => by unfold asD at h; cases h
theorem rpk_set {H : Hp} {k : Key} {v : V} {d : D} (r : Rp H v d) : ∀ {kvs : List (Key × V)} {ks : List (Key × D)}, RpK H kvs (asD ks) → RpK H (kvs.map fun kv => if kv.1 = k then (kv.1, v) else kv) (asD (ks.map fun kv => if kv.1 = k then (kv.1, d) else kv))
  | [], [], _ => .nil
  | (k1, v1) :: kvs, (k2, d1) :: ks, h => by
    obtain ⟨rfl, h1, h2⟩ := rpk_cons h
    rw [List.map_cons, List.map_cons]
    by_cases e : k1 = k
    · rw [if_pos e, if_pos e]
      exact .cons r (rpk_set r h2)
    · rw [if_neg e, if_neg e]
      exact .cons h1 (rpk_set r h2)
  | [], (k, d) :: ks, h => by unfold asD at h; rw [List.map_cons] at h; cases h
  | (k, v) :: kvs, [], h => by unfold asD at h; cases h
theorem any_key {α β : Type} (k : Key) : ∀ {xs : List (Key × α)} {ys : List (Key × β)}, xs.map (·.1) = ys.map (·.1) → (xs.any fun kv => decide (kv.1 = k)) = ys.any fun kv => decide (kv.1 = k)
  | [], [], _ => rfl
  | x :: xs, y :: ys, h => by
    rw [List.map_cons, List.map_cons] at h
    obtain ⟨h1, h2⟩ := List.cons.inj h
    rw [List.any_cons, List.any_cons, any_key k h2, h1]
  | [], _ :: _, h => by cases h
  | _ :: _, [], h => by cases h
theorem rpk_put {H : Hp} {k : Key} {v : V} {d : D} {kvs : List (Key × V)} {ks : List (Key × D)} (h : RpK H kvs (asD ks)) (r : Rp H v d) : RpK H (putK kvs k v) (asD (putA ks k d)) := by
  unfold putK putA
  rw [any_key k (rpk_keys h)]
  split
  · exact rpk_set r h
  · exact rpk_app h r
theorem putA_keys {α : Type} (ks : List (Key × α)) (k : Key) (v : α) : (putA ks k v).map (·.1) = if (ks.any fun kv => decide (kv.1 = k)) = true then ks.map (·.1) else ks.map (·.1) ++ [k] := by
  unfold putA
  split
  · rw [List.map_map]
    refine List.map_congr_left fun q _ => ?_
    show (if q.1 = k then (q.1, v) else q).1 = q.1
    split <;> rfl
  · rw [List.map_append]
    rfl
theorem putA_nodup {α : Type} {ks : List (Key × α)} {k : Key} {v : α} (h : (ks.map (·.1)).Nodup) : ((putA ks k v).map (·.1)).Nodup := by
  rw [putA_keys]
  split
  · exact h
  · rename_i hn
    rw [List.nodup_append]
    refine ⟨h, by simp, fun x hx y hy e => hn ?_⟩
    rw [List.mem_singleton.mp hy] at e
    obtain ⟨q, hq, e2⟩ := List.mem_map.mp hx
    exact List.any_eq_true.mpr ⟨q, hq, decide_eq_true (e2.trans e)⟩
theorem putK_nodup {kvs : List (Key × V)} {k : Key} {v : V} (h : (kvs.map (·.1)).Nodup) : ((putK kvs k v).map (·.1)).Nodup := putA_nodup (α := V) h
/-- name = {} -/
theorem wpS_newD {x : Str} {px : Pos} {dpos : Pos} (j : Nat) (h : R.nx (δ.set j (some (.own (.dic (asD [])))))) (hN : X.N.Nodup) (hi : X.N[j]? = some x := by rfl) (hx : Loc X.env.scope x := by first | exact Or.inl rfl | exact Or.inr rfl)
    (hs : swapsWith (.Dict [] [] dpos) (some (.Name x px)) pos.line X.env = pure false := by rfl) (hf : X.fn x = true ∨ X.env.scope.names.lookup x = some .local := by first | exact .inl rfl | exact .inr rfl) : wpS X Tb (.Assign [.Name x px] (.Dict [] [] dpos) pos) δ R := fun B O0 M Lk σ τ H I => by
  obtain ⟨O, J⟩ := I
  exact sem_s (ps_set hN hi hx pe_dnewK hs hf) fun q hq => ⟨_, ⟨_, J.ownD (j := j) (kvs := []) (ks := asD []) hq List.nodup_nil .nil⟩, h⟩
theorem wpSs_thawD {ks : List (D × D)} (j : Nat) (hj : δ[j]? = some (some (.own (.dic ks)))) (h : wpSs X Tb sts (δ.set j (some (.d (.dict ks)))) R) : wpSs X Tb sts δ R := fun B O0 M Lk σ τ H I => by
  obtain ⟨O, I⟩ := I
  obtain ⟨O', I'⟩ := I.thawD hj
  exact h B O0 M Lk σ τ H ⟨O', I'⟩
/-- name[k] = e -/
theorem wpS_put {x : Str} {px spos : Pos} {ks : List (Key × D)} (j : Nat) (hj : δ[j]? = some (some (.own (.dic (asD ks))))) (hu : X.A.units + 1 < cLine)
    (h : wpE X Tb e δ fun d => wpE X Tb i δ fun k => ∃ q : Key, k = kD q ∧ ks.length < sizeLine ∧ R.nx (δ.set j (some (.own (.dic (asD (putA ks q d))))))) (hN : X.N[j]? = some x := by rfl)
    (hv : Vis X.env.scope x := by first | exact Or.inl rfl | exact Or.inr (Or.inl rfl) | exact Or.inr (Or.inr rfl)) (h1 : (x == ("__debug__" : Str)) = false := by decide) (h2 : (x == ("__classdict__" : Str)) = false := by decide)
    (hs : swapsWith e (some (.Subscript (.Name x px) i spos)) pos.line X.env = pure false := by rfl) : wpS X Tb (.Assign [.Subscript (.Name x px) i spos] e pos) δ R := fun B O0 M Lk σ τ H I =>
  sem_s (ps_dput hu (pe_var hN hv h1 h2) pe_sem pe_sem hs) (h B O0 M Lk σ τ H I _ fun u d H1 J q => by
    obtain ⟨O, K⟩ := id J
    obtain ⟨v, e0, _⟩ := K.slots j _ hj
    refine ⟨v, e0, q B O0 M Lk σ _ H1 J _ fun w k H2 J2 q2 => ?_⟩
    obtain ⟨O2, K2⟩ := J2
    obtain ⟨v2, e2, p, rfl, hp, _, _, kvs, hx, nd, r⟩ := K2.slots j _ hj
    have ev : v = .ref p := Option.some.inj (Option.some.inj (e0.symm.trans e2))
    obtain ⟨K3, rw1, rw2⟩ := K2.pop2
    obtain ⟨kk, rfl, hl, hq⟩ := q2
    have ew : w = kV kk := by
      cases kk with
      | inl i => exact rw2.int'
      | inr y => exact rw2.str'
    have hlen : kvs.length = ks.length := by have := r.length; unfold asD at this; rw [List.length_map] at this; exact this
    refine ⟨p, _, ev, .inl ⟨kvs, kk, hx, ew, by rw [hlen]; exact hl, rfl⟩, _, ⟨O2, K3.mutD hj e2 (putK_nodup nd) (rpk_put r rw1)⟩, hq⟩)
end
end DL

set_option Elab.async false
set_option linter.all false
set_option maxRecDepth 100000
set_option maxHeartbeats 2000000
/-! DL17: short texts; draws and picks. -/
namespace DL
open PySem PySem.Spec L2
section
variable {X : Cx} {Tb : List Addr}
theorem op_mulS : OpR X (binaryOp .Mult) (fun x y H Q => ∃ z n, x = .str z ∧ y = .int n ∧ MulOk z n ∧ Q (.str (Txt.mul z n)) H) := by
  intro pins s σ H x y v u Q I rx ry h
  obtain ⟨z, n, rfl, rfl, hk, q⟩ := h
  obtain ⟨t, rfl⟩ := rx
  obtain ⟨t', rfl⟩ := ry
  exact SB.mul hk fun t2 k => ⟨.str (Txt.mul z n), H, I.tok _, ⟨_, rfl⟩, q⟩
def mulSR : D → D → (D → Prop) → Prop
  | .str z, .int n, P => MulOk z n ∧ P (.str (Txt.mul z n))
  | _, _, _ => False
theorem ok_mulS : Ok2 X Tb (fun x y H Q => ∃ z n, x = .str z ∧ y = .int n ∧ MulOk z n ∧ Q (.str (Txt.mul z n)) H) mulSR := by
  intro B O0 M Lk O δ σ τ H x y d1 d2 P I rx ry h Q q
  unfold mulSR at h
  split at h
  · rw [rx.str', ry.int']
    exact ⟨_, _, rfl, rfl, h.1, q _ _ H ⟨O, I.push (.str _)⟩ h.2⟩
  · exact h.elim
end
/-- a text of at most n signs, all of them ordinary -/
def Ok8 (n : Nat) (x : Str) : Prop := x.length ≤ n ∧ ∀ c ∈ x.cps.toList, c < 16 ^ 8
theorem Ok8.mono {n m : Nat} {x : Str} (h : Ok8 n x) (k : n ≤ m) : Ok8 m x := ⟨Nat.le_trans h.1 k, h.2⟩
theorem Ok8.app {n m : Nat} {x y : Str} (hx : Ok8 n x) (hy : Ok8 m y) : Ok8 (n + m) (x ++ y) := by
  refine ⟨by rw [strLen_append]; have := hx.1; have := hy.1; omega, fun c hc => ?_⟩
  have e : (x ++ y).cps.toList = x.cps.toList ++ y.cps.toList := by
    show (x.cps ++ y.cps).toList = _
    rw [Array.toList_append]
  rw [e] at hc
  exact (List.mem_append.mp hc).elim (hx.2 c) (hy.2 c)
theorem ok8_one {c : Nat} (h : c < 16 ^ 8) : Ok8 1 ⟨#[c]⟩ := ⟨Nat.le_refl 1, fun d hd => by
  have : d = c := by simpa using hd
  rw [this]
  exact h⟩
theorem ok8_empty (n : Nat) : Ok8 n Str.empty := ⟨Nat.zero_le _, fun c hc => by
  have : c ∈ ([] : List Nat) := hc
  cases this⟩
theorem repl_ok {c : Nat} (h : c < 16 ^ 8) : ∀ (k : Nat) (acc : Array Nat), (∀ d ∈ acc.toList, d < 16 ^ 8) → (((List.replicate k #[c]).foldl (· ++ ·) acc).size = acc.size + k ∧ ∀ d ∈ ((List.replicate k #[c]).foldl (· ++ ·) acc).toList, d < 16 ^ 8)
  | 0, acc, ha => ⟨rfl, ha⟩
  | k + 1, acc, ha => by
    rw [List.replicate_succ, List.foldl_cons]
    obtain ⟨h1, h2⟩ := repl_ok h k (acc ++ #[c]) (fun d hd => by
      rw [Array.toList_append] at hd
      rcases List.mem_append.mp hd with hd | hd
      · exact ha d hd
      · have : d = c := by simpa using hd
        rw [this]
        exact h)
    refine ⟨?_, h2⟩
    rw [h1, Array.size_append]
    show acc.size + 1 + k = acc.size + (k + 1)
    omega
theorem mul_one {c : Nat} {n : Int} (hc : c < 16 ^ 8) (h0 : 0 ≤ n) (h1 : n ≤ 8) : MulOk ⟨#[c]⟩ n ∧ Ok8 8 (Txt.mul ⟨#[c]⟩ n) := by
  have hl : (⟨#[c]⟩ : Str).length = 1 := rfl
  have cs : n = 0 ∨ n = 1 ∨ n = 2 ∨ n = 3 ∨ n = 4 ∨ n = 5 ∨ n = 6 ∨ n = 7 ∨ n = 8 := by omega
  refine ⟨?_, ?_⟩
  · unfold MulOk
    rw [hl]
    rcases cs with rfl | rfl | rfl | rfl | rfl | rfl | rfl | rfl | rfl <;> decide
  · unfold Txt.mul
    split
    · exact ok8_empty 8
    · split
      · exact (ok8_one hc).mono (by omega)
      · obtain ⟨k1, k2⟩ := repl_ok hc n.toNat #[] (fun d hd => by cases hd)
        refine ⟨?_, k2⟩
        show ((List.replicate n.toNat #[c]).foldl (· ++ ·) #[]).size ≤ 8
        rw [k1]
        show 0 + n.toNat ≤ 8
        omega
theorem ok8_text {n : Nat} {x : Str} (h : x.length ≤ n) (h2 : x.cps.toList.all (fun c => decide (c < 16 ^ 8)) = true) : Ok8 n x := ⟨h, fun c hc => of_decide_eq_true (List.all_eq_true.mp h2 c hc)⟩
/-- a sign of a text -/
theorem sign_at {n : Nat} {x : Str} (hx : Ok8 n x) {i : Int} (h0 : 0 ≤ i) (h1 : i < x.length) : ∃ c, atI x.cps.toList i = some c ∧ c < 16 ^ 8 := by
  obtain ⟨k, rfl⟩ := Int.eq_ofNat_of_zero_le h0
  have hk : k < x.cps.toList.length := by
    have : k < x.length := by omega
    rw [Array.length_toList]
    exact this
  exact ⟨x.cps.toList[k], at_nat (List.getElem?_eq_getElem hk), hx.2 _ (List.getElem_mem hk)⟩
section
variable {X : Cx} {Tb : List Addr} {δ : Dl} {e : Expr} {pos p py : Pos} {P : D → Prop} {x y : Str} {fA : Addr} {fd : FuncData} {k : Nat} {ps : List Str}
/-- _law_take(feed, e) -/
theorem wpE_take (j : Nat) (F : FnOk X.prog X.w X.K X.mg X.base CX0 k fA fd ps (spD Tb 1 1 preT postT)) (hr : Room k X.A) (hm : X.mg x = some (.ref fA)) (hk : PySem.W.keepIn X.K (.ref fA) = true) (hb : Binds X.K fd ps [])
    (hj : δ[j]? = some (some (.own .feed))) (h : wpE X Tb e δ fun d => ∃ m : Int, d = .int m ∧ 0 < m ∧ m < 1073741824 ∧ ∀ z, 0 ≤ z → z < m → P (.int z)) (hN : X.N[j]? = some y := by rfl)
    (hv : Vis X.env.scope y := by first | exact Or.inl rfl | exact Or.inr (Or.inl rfl) | exact Or.inr (Or.inr rfl)) (hd1 : (y == ("__debug__" : Str)) = false := by decide) (hd2 : (y == ("__classdict__" : Str)) = false := by decide)
    (hg : Gl X x := by rfl) (hdb : (x == ("__debug__" : Str)) = false := by decide) (he : starEach [.Name y py, e] X.env = (false, eval (.Name y py) X.env) :: starEach [e] X.env := by rfl) (hpl : (backTo pos (starEach [e] X.env)).any (·.1) = false := by rfl)
    (he2 : starEach [e] X.env = (false, eval e X.env) :: starEach [] X.env := by rfl) :
    wpE X Tb (.Call (.Name x p) [.Name y py, e] [] pos) δ P :=
  wpE_callF j F hr hm hk hb hj (wpA_cons (wpE_mono h fun d h => by
    obtain ⟨m, rfl, m0, m1, hz⟩ := h
    exact wpA_nil ⟨rfl, ⟨m, rfl, m0, m1⟩, fun d ⟨m', z, e1, e2, z0, z1⟩ => by
      cases e1
      rw [e2]
      exact hz z z0 z1⟩) he2) hN hv hd1 hd2 hg hdb he hpl
abbrev preP : List D → Prop := fun ds => ∃ xs : List D, ds = [.list xs] ∧ xs ≠ [] ∧ xs.length < 1073741824
abbrev postP : List D → D → Prop := fun ds d => ∃ xs : List D, ds = [.list xs] ∧ d ∈ xs
/-- _law_pick(feed, e) -/
theorem wpE_pick (j : Nat) (F : FnOk X.prog X.w X.K X.mg X.base CX0 k fA fd ps (spD Tb 1 1 preP postP)) (hr : Room k X.A) (hm : X.mg x = some (.ref fA)) (hk : PySem.W.keepIn X.K (.ref fA) = true) (hb : Binds X.K fd ps [])
    (hj : δ[j]? = some (some (.own .feed))) (h : wpE X Tb e δ fun d => ∃ xs : List D, d = .list xs ∧ xs ≠ [] ∧ xs.length < 1073741824 ∧ ∀ z ∈ xs, P z) (hN : X.N[j]? = some y := by rfl)
    (hv : Vis X.env.scope y := by first | exact Or.inl rfl | exact Or.inr (Or.inl rfl) | exact Or.inr (Or.inr rfl)) (hd1 : (y == ("__debug__" : Str)) = false := by decide) (hd2 : (y == ("__classdict__" : Str)) = false := by decide)
    (hg : Gl X x := by rfl) (hdb : (x == ("__debug__" : Str)) = false := by decide) (he : starEach [.Name y py, e] X.env = (false, eval (.Name y py) X.env) :: starEach [e] X.env := by rfl) (hpl : (backTo pos (starEach [e] X.env)).any (·.1) = false := by rfl)
    (he2 : starEach [e] X.env = (false, eval e X.env) :: starEach [] X.env := by rfl) :
    wpE X Tb (.Call (.Name x p) [.Name y py, e] [] pos) δ P :=
  wpE_callF j F hr hm hk hb hj (wpA_cons (wpE_mono h fun d h => by
    obtain ⟨xs, rfl, m0, m1, hz⟩ := h
    exact wpA_nil ⟨rfl, ⟨xs, rfl, m0, m1⟩, fun d ⟨ys, e1, e2⟩ => by
      cases e1
      exact hz d e2⟩) he2) hN hv hd1 hd2 hg hdb he hpl
end
/-- what a draw from the next list may be -/
theorem pick_get {xs : List D} {z : Int} (h0 : 0 ≤ z) (h1 : z < xs.length) : ∃ d, atI xs z = some d ∧ d ∈ xs := by
  obtain ⟨k, rfl⟩ := Int.eq_ofNat_of_zero_le h0
  have hk : k < xs.length := by omega
  exact ⟨xs[k], at_nat (List.getElem?_eq_getElem hk), List.getElem_mem hk⟩
end DL

set_option Elab.async false
set_option linter.all false
set_option maxRecDepth 100000
set_option maxHeartbeats 2000000
/-! DL18: signs, isinstance, slices of tuples, a new feed. -/
namespace DL
open PySem PySem.Spec L2
section
variable {X : Cx} {Tb : List Addr} {δ : Dl} {a b c e o i : Expr} {es eks : List Expr} {pos pos' p p2 pI pT pF py : Pos} {P P' : D → Prop} {st : Stmt} {sts : List Stmt} {R R' : Rs}
theorem wpE_neg (h : wpE X Tb a δ fun d => ∃ k, d = .int k ∧ P (.int (-k))) : wpE X Tb (.UnaryOp .USub a pos) δ P := fun B O0 M Lk σ τ H I Q q =>
  sem_e (pe_un un_neg pe_sem) (h B O0 M Lk σ τ H I _ fun v d H' J h3 => by
    obtain ⟨k, rfl, h3⟩ := h3
    obtain ⟨O', J'⟩ := J
    obtain ⟨J1, rk⟩ := J'.pop1
    exact ⟨k, rk.int', q _ _ H' ⟨O', J1.push (.int _)⟩ h3⟩)
/-- the class of a value that shows d -/
def tyD : D → String
  | .none => "NoneType"
  | .bool _ => "bool"
  | .int _ => "int"
  | .str _ => "str"
  | .list _ => "list"
  | .tuple _ => "tuple"
  | .dict _ => "dict"
theorem ty_of {O : List Addr} {H : Hp} {v : V} {d : D} (r : Rp (vis O H) v d) : TyX X.K H v (.type (tyD d)) := by
  cases r with
  | non => exact .base .non
  | bl b => exact .base (.bl b)
  | int i => exact .base (.int i)
  | str x => exact .base (.str x)
  | lst h _ => exact .base (.lst (vis_some h).2)
  | tup h _ => exact .base (.tup (vis_some h).2)
  | dic h _ _ =>
    rcases h with h | ⟨o, h⟩
    · exact .base (.dK (vis_some h).2)
    · exact .fDict (vis_some h).2
/-- isinstance(e, T), T a built-in class -/
theorem wpE_isi {x : Str} {T : String} (hm : X.mg "isinstance" = none) (hmT : X.mg x = none) (hbT : bootBuiltins x = some (.type T)) (h : wpE X Tb e δ fun d => ∃ k, kitB (tyD d) T = some k ∧ P (.bool k)) (hg : Gl X "isinstance" := by rfl) (hgT : Gl X x := by rfl) (hn : x ≠ "__name__" := by decide) (hd : (x == ("__debug__" : Str)) = false := by decide)
    (he : starEach [e, .Name x py] X.env = (false, eval e X.env) :: starEach [.Name x py] X.env := by rfl) (hpl : (backTo pos (starEach [.Name x py] X.env)).any (·.1) = false := by rfl) (he2 : starEach [.Name x py] X.env = (false, eval (.Name x py) X.env) :: starEach [] X.env := by rfl) : wpE X Tb (.Call (.Name "isinstance" p) [e, .Name x py] [] pos) δ P := fun B O0 M Lk σ τ H I Q q =>
  sem_e (pe_callB call_isi hg hm (by decide +kernel) (pa_cons pe_sem (pa_cons (pe_bltn (v := .ty T) hgT hmT hbT rfl hn hd) pa_nil he2) he) (by decide) (by decide) he hpl) (h B O0 M Lk σ τ H I _ fun v d H' J h3 => by
    obtain ⟨k, hk, h3⟩ := h3
    obtain ⟨O', J'⟩ := J
    obtain ⟨J1, rv⟩ := J'.pop1
    exact ⟨v, .ty T, .type (tyD d), .type T, k, rfl, .ty T, ty_of rv, kit_ty hk, q _ _ H' ⟨O', J1.push (.bl k)⟩ h3⟩)
theorem take_cut {xs : List V} {k : Nat} : cutV xs none (some (k : Int)) = xs.take k := by
  unfold cutV
  rw [show HT.sIx xs.length 0 none = 0 from HT.sIx_none .., show HT.sIx xs.length xs.length (some (k : Int)) = min k xs.length from HT.sIx_nat ..]
  rw [List.drop_zero, Nat.sub_zero]
  by_cases h : k ≤ xs.length
  · rw [Nat.min_eq_left h]
  · rw [Nat.min_eq_right (by omega), List.take_length, List.take_of_length_le (by omega)]
theorem drop_cut {xs : List V} {k : Nat} : cutV xs (some (k : Int)) none = xs.drop k := by
  unfold cutV
  rw [show HT.sIx xs.length 0 (some (k : Int)) = min k xs.length from HT.sIx_nat .., show HT.sIx xs.length xs.length none = xs.length from HT.sIx_none ..]
  by_cases h : k ≤ xs.length
  · rw [Nat.min_eq_left h, List.take_of_length_le (by rw [List.length_drop]; exact Nat.le_refl _)]
  · rw [Nat.min_eq_right (by omega), Nat.sub_self, List.take_zero, List.drop_of_length_le (by omega)]
/-- a[:k], a tuple -/
theorem wpE_takeT (h : wpE X Tb a δ fun d => ∃ ds, d = .tuple ds ∧ wpE X Tb b δ fun n => ∃ k : Nat, n = .int (k : Nat) ∧ k < ds.length ∧ P (.tuple (ds.take k))) : wpE X Tb (.Subscript a (.Slice none (some b) none p2) pos) δ P := fun B O0 M Lk σ τ H I Q q =>
  sem_e (pe_slice sl_tup pe_sem po_none (po_some pe_sem)) (h B O0 M Lk σ τ H I _ fun x d1 H1 I1 h1 => by
    obtain ⟨ds, rfl, h1⟩ := h1
    refine h1 B O0 M Lk σ _ H1 I1 _ fun y d2 H2 I2 h2 => ?_
    obtain ⟨k, rfl, hk, h2⟩ := h2
    obtain ⟨O, J⟩ := I2
    obtain ⟨J0, rx, ry⟩ := J.pop2
    obtain ⟨ad, xs, rfl, ha, rxs⟩ := rx.tuple'
    refine ⟨(k : Nat), ry.int', ad, xs, rfl, .inl (.inl (vis_some ha).2), fun z => ?_, fun p hp => ?_⟩
    · have := z.2
      rw [show HT.sIx xs.length xs.length (some (k : Int)) = min k xs.length from HT.sIx_nat ..] at this
      rw [← rxs.length] at hk
      omega
    · rw [take_cut]
      exact q _ _ _ ⟨O, J0.newTup (rxs.take k) hp⟩ h2)
/-- a[k:], a tuple -/
theorem wpE_dropT (h : wpE X Tb a δ fun d => ∃ ds, d = .tuple ds ∧ wpE X Tb b δ fun n => ∃ k : Nat, n = .int (k : Nat) ∧ 0 < k ∧ ds ≠ [] ∧ P (.tuple (ds.drop k))) : wpE X Tb (.Subscript a (.Slice (some b) none none p2) pos) δ P := fun B O0 M Lk σ τ H I Q q =>
  sem_e (pe_slice sl_tup pe_sem (po_some pe_sem) po_none) (h B O0 M Lk σ τ H I _ fun x d1 H1 I1 h1 => by
    obtain ⟨ds, rfl, h1⟩ := h1
    refine h1 B O0 M Lk σ _ H1 I1 _ fun y d2 H2 I2 h2 => ?_
    obtain ⟨k, rfl, hk, hne, h2⟩ := h2
    obtain ⟨O, J⟩ := I2
    obtain ⟨J0, rx, ry⟩ := J.pop2
    obtain ⟨ad, xs, rfl, ha, rxs⟩ := rx.tuple'
    have hl : 0 < xs.length := by rw [rxs.length]; exact List.length_pos_iff.mpr hne
    refine ⟨(k : Nat), ry.int', ad, xs, rfl, .inl (.inl (vis_some ha).2), fun z => ?_, fun p hp => ?_⟩
    · have := z.1
      rw [show HT.sIx xs.length 0 (some (k : Int)) = min k xs.length from HT.sIx_nat ..] at this
      omega
    · rw [drop_cut]
      exact q _ _ _ ⟨O, J0.newTup (rxs.drop k) hp⟩ h2)
theorem AtO.ownF {G : Glo} {B : Hp} {O0 M O : List Addr} {Lk : Lks} {σ : L2.St} {τ : List (V × D)} {H : Hp} {fa fb : Int} {q : Addr} {j : Nat} (I : AtO G B O0 M Lk O δ σ τ H) (hq : H q = none) :
    AtO G B O0 M Lk (q :: O) (δ.set j (some (.own .feed))) (σ.set j (some (.ref q))) τ (upd H q (.lst [.int fa, .int fb])) := by
  obtain ⟨J, hn⟩ := I.alloc (o := .lst [.int fa, .int fb]) hq
  have hB : B q = none := by
    cases e : B q with
    | none => rfl
    | some u =>
      have hM : q ∉ M := fun z => hn (I.sub0 _ (I.subM _ z))
      rcases I.gr q u hM e with h | ⟨_, _, _, h, _⟩ | ⟨_, _, h⟩ <;> rw [hq] at h <;> cases h
  have ve : vis (q :: O) (upd H q (.lst [.int fa, .int fb])) = vis O H := by
    funext a
    by_cases ha : a = q
    · subst ha
      rw [vis_in List.mem_cons_self, vis_out hn, hq]
    · by_cases ho : a ∈ O
      · rw [vis_in (List.mem_cons_of_mem _ ho), vis_in ho]
      · rw [vis_out (by simp [ha, ho]), vis_out ho, upd_ne ha]
  have hlen : (δ.set j (some (.own .feed))).length = (σ.set j (some (.ref q))).length := by rw [List.length_set, List.length_set]; exact I.len
  have oldref : ∀ (i : Nat) (o : OD), δ[i]? = some (some (.own o)) → σ[i]? ≠ some (some (.ref q)) := fun i o e z => by
    obtain ⟨v, h1, p, rfl, h2, _⟩ := I.slots i _ e
    rw [z] at h1
    have : V.ref q = V.ref p := Option.some.inj (Option.some.inj h1)
    exact hn (by rw [V.ref.inj this]; exact h2)
  refine ⟨fun p hp => List.mem_cons_of_mem _ (I.sub0 p hp), I.subM, I.o0, fun p hp => ?_, fun p hp => ?_, J.gr, fun p hp => ?_, I.hidT, J.feeds, J.tabs, fun p hp => by rw [ve]; exact I.tmp p hp, hlen, fun i sl e => ?_, fun i k o o' p e1 e2 e3 e4 => ?_, fun p hp => ⟨fun z => (List.mem_cons.mp z).elim (fun z => by have h := (I.lck p hp).2; rw [z, hq] at h; cases h) (I.lck p hp).1, by rw [upd_ne fun z => by have h := (I.lck p hp).2; rw [z, hq] at h; cases h]; exact (I.lck p hp).2⟩, J.nof⟩
  · rcases List.mem_cons.mp hp with e | hp
    · exact .inr (by rw [e]; exact hB)
    · exact I.new p hp
  · rcases List.mem_cons.mp hp with e | hp
    · rw [e, upd_same]
      exact fun z => nomatch z
    · exact J.live p hp
  · obtain ⟨h1, h2, h3, h4⟩ := I.hid p hp
    have np : p.1 ≠ q := fun z => hn (by rw [← z]; exact h2)
    refine ⟨by rw [upd_ne np]; exact h1, List.mem_cons_of_mem _ h2, h3, fun i o e => ?_⟩
    by_cases hj : j = i
    · subst hj
      have hlt : j < δ.length := by
        have := (List.getElem?_eq_some_iff.mp e).1
        rwa [List.length_set] at this
      rw [List.getElem?_set_self (by rw [← I.len]; exact hlt)]
      exact fun z => np (V.ref.inj (Option.some.inj (Option.some.inj z))).symm
    · rw [List.getElem?_set_ne hj] at e ⊢
      exact h4 i o e
  · by_cases hj : j = i
    · subst hj
      have hlt : j < δ.length := by
        have := (List.getElem?_eq_some_iff.mp e).1
        rwa [List.length_set] at this
      rw [List.getElem?_set_self hlt] at e
      cases e
      exact ⟨.ref q, by rw [List.getElem?_set_self (by rw [← I.len]; exact hlt)], q, rfl, List.mem_cons_self, .inr hB, .inl rfl, fa, fb, upd_same⟩
    · rw [List.getElem?_set_ne hj] at e
      obtain ⟨u, h1, h2⟩ := I.slots i sl e
      refine ⟨u, by rw [List.getElem?_set_ne hj]; exact h1, ?_⟩
      cases sl with
      | d d =>
        show Rp (vis (q :: O) _) u d
        rw [ve]
        exact h2
      | scr ns =>
        obtain ⟨a, e2, h2⟩ := h2
        refine ⟨a, e2, ?_⟩
        rw [ve]
        exact h2
      | own o =>
        obtain ⟨p, e2, hp, hb, hb2, h2⟩ := h2
        refine ⟨p, e2, List.mem_cons_of_mem _ hp, hb, hb2, ?_⟩
        have np : p ≠ q := fun z => hn (by rw [← z]; exact hp)
        cases o with
        | feed => obtain ⟨a, b, h2⟩ := h2; exact ⟨a, b, by rw [upd_ne np]; exact h2⟩
        | lst ds => obtain ⟨ys, h2, h3⟩ := h2; exact ⟨ys, by rw [upd_ne np]; exact h2, by rw [ve]; exact h3⟩
        | dic ks => obtain ⟨ys, h2, h4, h3⟩ := h2; exact ⟨ys, by rw [upd_ne np]; exact h2, h4, by rw [ve]; exact h3⟩
  · by_cases h1 : j = i
    · by_cases h2 : j = k
      · exact h1.symm.trans h2
      · subst h1
        have hlt : j < δ.length := by
          have := (List.getElem?_eq_some_iff.mp e1).1
          rwa [List.length_set] at this
        rw [List.getElem?_set_self (by rw [← I.len]; exact hlt)] at e3
        have ep : q = p := V.ref.inj (Option.some.inj (Option.some.inj e3))
        rw [List.getElem?_set_ne h2] at e2 e4
        exact (oldref k o' e2 (by rw [ep]; exact e4)).elim
    · rw [List.getElem?_set_ne h1] at e1 e3
      by_cases h2 : j = k
      · subst h2
        have hlt : j < δ.length := by
          have := (List.getElem?_eq_some_iff.mp e2).1
          rwa [List.length_set] at this
        rw [List.getElem?_set_self (by rw [← I.len]; exact hlt)] at e4
        have ep : q = p := V.ref.inj (Option.some.inj (Option.some.inj e4))
        exact (oldref i o e1 (by rw [ep]; exact e3)).elim
      · rw [List.getElem?_set_ne h2] at e2 e4
        exact I.sep i k o o' p e1 e2 e3 e4

/-- name = _law_feed(script, k) -/
theorem wpS_feed {x xF y : Str} {px : Pos} {fF : Addr} {fdF : FuncData} {kF : Nat} {psF : List Str} {ns : List Int} (j jx : Nat) (FF : FnOk X.prog X.w X.K X.mg X.base CX0 kF fF fdF psF (spFeed X.K)) (hrF : Room kF X.A) (hmF : X.mg xF = some (.ref fF)) (hkF : PySem.W.keepIn X.K (.ref fF) = true) (hbF : Binds X.K fdF psF [])
    (hj : δ[j]? = some (some (.scr ns))) (h : wpA X Tb eks δ fun ds => ∃ i : Nat, ds = [.int (i : Nat)] ∧ R.nx (δ.set jx (some (.own .feed)))) (hNd : X.N.Nodup) (hix : X.N[jx]? = some x := by rfl) (hx : Loc X.env.scope x := by first | exact Or.inl rfl | exact Or.inr rfl)
    (hN : X.N[j]? = some y := by rfl) (hv : Vis X.env.scope y := by first | exact Or.inl rfl | exact Or.inr (Or.inl rfl) | exact Or.inr (Or.inr rfl)) (h1 : (y == ("__debug__" : Str)) = false := by decide) (h2 : (y == ("__classdict__" : Str)) = false := by decide)
    (hgF : Gl X xF := by rfl) (hdF : (xF == ("__debug__" : Str)) = false := by decide)
    (heF : starEach (.Name y py :: eks) X.env = (false, eval (.Name y py) X.env) :: starEach eks X.env := by rfl) (hplF : (backTo p (starEach eks X.env)).any (·.1) = false := by rfl)
    (hs : swapsWith (.Call (.Name xF pF) (.Name y py :: eks) [] p) (some (.Name x px)) pos.line X.env = pure false := by rfl) (hf : X.fn x = true ∨ X.env.scope.names.lookup x = some .local := by first | exact .inl rfl | exact .inr rfl) :
    wpS X Tb (.Assign [.Name x px] (.Call (.Name xF pF) (.Name y py :: eks) [] p) pos) δ R := fun B O0 M Lk σ τ H I => by
  refine sem_s (ps_set hNd hix hx (pe_call FF hrF hgF hmF hkF hbF .nil (pass0 (X := X)) (pa_cons (pe_var hN hv h1 h2) pa_sem heF) hdF heF hplF) hs hf) ?_
  obtain ⟨O, J⟩ := id I
  obtain ⟨ad, e0, hS⟩ := J.scr hj
  refine ⟨.ref ad, e0, h B O0 M Lk σ τ H I _ fun ps H1 J1 h1 => ?_⟩
  obtain ⟨i, hds, h2⟩ := h1
  obtain ⟨O1, J1⟩ := J1
  obtain ⟨J1, r1⟩ := J1.popA
  rw [hds] at r1
  obtain ⟨a1, e1, hS1⟩ := J1.scr hj
  have ea : ad = a1 := V.ref.inj (Option.some.inj (Option.some.inj (e0.symm.trans e1)))
  subst ea
  have e2 : ps.map (·.1) = [V.int (i : Nat)] := by
    obtain ⟨v, ev, rv⟩ := r1.one'
    rw [ev, rv.int']
  refine ⟨ad, ns, i, ?_, hS1, fun q x z hq => ⟨_, ⟨_, J1.ownF (j := jx) hq⟩, h2⟩⟩
  show (.ref ad :: ps.map (·.1)) ++ [] = _
  rw [e2]
  rfl
end
end DL

set_option Elab.async false
set_option linter.all false
set_option maxRecDepth 100000
set_option maxHeartbeats 2000000
/-! DL19: data that repr writes out. -/
namespace DL
open PySem PySem.Spec L2
structure Sm (p n : Nat) (d : D) : Prop where
  sh : d.showable = true
  lv : d.leavesShort 13 = true
  dp : d.depth ≤ p
  wt : d.weight ≤ n
structure SmA (p n : Nat) (ds : List D) : Prop where
  sh : PyData.showableAll ds = true
  lv : PyData.leavesShortAll 13 ds = true
  dp : PyData.depthAll ds ≤ p
  wt : PyData.weightAll ds ≤ n
structure SmK (p n : Nat) (ds : List (D × D)) : Prop where
  sh : PyData.showableKv ds = true
  lv : PyData.leavesShortKv 13 ds = true
  dp : PyData.depthKv ds ≤ p
  wt : PyData.weightKv ds ≤ n
theorem Sm.mono {p n m : Nat} {d : D} (h : Sm p n d) (k : n ≤ m) : Sm p m d := ⟨h.sh, h.lv, h.dp, Nat.le_trans h.wt k⟩
theorem log_lt {n k : Nat} (h : n < 2 ^ k) (hk : 0 < k) : n.log2 < k := by
  by_cases e : n = 0
  · rw [e]
    exact hk
  · exact (Nat.log2_lt e).mpr h
theorem sm_int {i : Int} (p : Nat) (h : i.natAbs < 10 ^ 12) : Sm p 40 (.int i) := by
  have h40 : i.natAbs < 2 ^ 40 := Nat.lt_of_lt_of_le h (by decide)
  refine ⟨?_, ?_, ?_, ?_⟩
  · simp only [PyData.showable]
    exact decide_eq_true (Nat.lt_trans (log_lt h40 (by decide)) (by decide))
  · simp only [PyData.leavesShort]
    exact decide_eq_true (PyData.shown_int_le h)
  · simp only [PyData.depth]
    exact Nat.zero_le _
  · simp only [PyData.weight]
    split
    · exact Nat.zero_le _
    · exact log_lt h40 (by decide)
theorem sm_none (p : Nat) : Sm p 0 .none := ⟨rfl, rfl, by simp [PyData.depth], by simp [PyData.weight]⟩
theorem sm_bool (p : Nat) (b : Bool) : Sm p 0 (.bool b) := ⟨rfl, rfl, by simp [PyData.depth], by simp [PyData.weight]⟩
theorem sm_str {n : Nat} {x : Str} (p : Nat) (h : Ok8 n x) : Sm p n (.str x) := by
  refine ⟨rfl, ?_, by simp [PyData.depth], by simp only [PyData.weight]; exact h.1⟩
  simp only [PyData.leavesShort]
  exact List.all_eq_true.mpr fun c hc => decide_eq_true (h.2 c hc)
theorem smA_nil (p : Nat) : SmA p 0 [] := ⟨rfl, rfl, by simp [PyData.depthAll], by simp [PyData.weightAll]⟩
theorem smA_cons {p a b : Nat} {d : D} {ds : List D} (h : Sm p a d) (r : SmA p b ds) : SmA p (a + 1 + b) (d :: ds) := by
  refine ⟨?_, ?_, ?_, ?_⟩
  · simp only [PyData.showableAll, h.sh, r.sh, Bool.and_self]
  · simp only [PyData.leavesShortAll, h.lv, r.lv, Bool.and_self]
  · simp only [PyData.depthAll]
    exact Nat.max_le.mpr ⟨h.dp, r.dp⟩
  · simp only [PyData.weightAll]
    have := h.wt
    have := r.wt
    omega
theorem smK_nil (p : Nat) : SmK p 0 [] := ⟨rfl, rfl, by simp [PyData.depthKv], by simp [PyData.weightKv]⟩
theorem smK_cons {p a b c : Nat} {k d : D} {ds : List (D × D)} (g : Sm p a k) (h : Sm p b d) (r : SmK p c ds) : SmK p (a + b + 2 + c) ((k, d) :: ds) := by
  refine ⟨?_, ?_, ?_, ?_⟩
  · simp only [PyData.showableKv, g.sh, h.sh, r.sh, Bool.and_self]
  · simp only [PyData.leavesShortKv, g.lv, h.lv, r.lv, Bool.and_self]
  · simp only [PyData.depthKv]
    exact Nat.max_le.mpr ⟨Nat.max_le.mpr ⟨g.dp, h.dp⟩, r.dp⟩
  · simp only [PyData.weightKv]
    have := g.wt
    have := h.wt
    have := r.wt
    omega
theorem sm_tuple {p n : Nat} {ds : List D} (h : SmA p n ds) : Sm (p + 1) n (.tuple ds) := ⟨by simp only [PyData.showable]; exact h.sh, by simp only [PyData.leavesShort]; exact h.lv, by simp only [PyData.depth]; have := h.dp; omega, by simp only [PyData.weight]; exact h.wt⟩
theorem sm_list {p n : Nat} {ds : List D} (h : SmA p n ds) : Sm (p + 1) n (.list ds) := ⟨by simp only [PyData.showable]; exact h.sh, by simp only [PyData.leavesShort]; exact h.lv, by simp only [PyData.depth]; have := h.dp; omega, by simp only [PyData.weight]; exact h.wt⟩
theorem sm_dict {p n : Nat} {ds : List (D × D)} (h : SmK p n ds) : Sm (p + 1) n (.dict ds) := ⟨by simp only [PyData.showable]; exact h.sh, by simp only [PyData.leavesShort]; exact h.lv, by simp only [PyData.depth]; have := h.dp; omega, by simp only [PyData.weight]; exact h.wt⟩
theorem Sm.up {p q n : Nat} {d : D} (h : Sm p n d) (k : p ≤ q) : Sm q n d := ⟨h.sh, h.lv, Nat.le_trans h.dp k, h.wt⟩
theorem r_repr {p n : Nat} {ds : List D} {P : D → Prop} (h : Sm p n (.list ds)) (hp : p ≤ 64) (hn : n ≤ 2 ^ 20) (q : P (.str (PyData.shown (.list ds)))) : reprR [.list ds] P :=
  ⟨⟨h.sh, Nat.le_trans h.dp hp, PyData.shown_fits (B := 13) (by decide) (by decide) h.lv (Nat.le_trans h.wt hn)⟩, q⟩
end DL

set_option Elab.async false
set_option linter.all false
set_option maxRecDepth 100000
set_option maxHeartbeats 2000000
/-! DL20: results that are new lists; enumerate; reading a list of one's own. -/
namespace DL
open PySem PySem.Spec L2
section
variable {X : Cx} {Tb : List Addr} {δ : Dl} {tg a b c e o i iter elt : Expr} {es : List Expr} {pos pos' p : Pos} {st : Stmt} {sts : List Stmt} {R R' : Rs}
/-- a hidden list becomes the frame's own -/
theorem AtO.ownH {G : Glo} {B : Hp} {O0 M O : List Addr} {L1 : List (Addr × Obj × HO)} {hs : List (Addr × HO)} {σ : L2.St} {τ : List (V × D)} {H : Hp} {xs : List V} {ds : List D} {q : Addr} {j : Nat} (I : AtO G B O0 M (L1, (q, .lst xs) :: hs) O δ σ τ H) (noh : ∀ p ∈ hs, p.1 ≠ q) (r : RpA (vis O H) xs ds) :
    AtO G B O0 M (L1, hs) O (δ.set j (some (.own (.lst ds)))) (σ.set j (some (.ref q))) τ H := by
  obtain ⟨hx, hO, hB, old⟩ := I.hid _ List.mem_cons_self
  have hx : H q = some (.lst xs) := hx
  have hB : B q = none := hB
  refine ⟨I.sub0, I.subM, I.o0, I.new, I.live, I.gr, fun p hp => ?_, fun p hp => I.hidT p (List.mem_cons_of_mem _ hp), I.feeds, I.tabs, I.tmp, by rw [List.length_set, List.length_set]; exact I.len, fun i sl e => ?_, fun i k o o' p e1 e2 e3 e4 => ?_, I.lck, I.nof⟩
  · obtain ⟨h1, h2, h3, h4⟩ := I.hid p (List.mem_cons_of_mem _ hp)
    refine ⟨h1, h2, h3, fun i o e => ?_⟩
    by_cases hj : j = i
    · subst hj
      have hlt : j < δ.length := by
        have := (List.getElem?_eq_some_iff.mp e).1
        rwa [List.length_set] at this
      rw [List.getElem?_set_self (by rw [← I.len]; exact hlt)]
      exact fun z => noh p hp (V.ref.inj (Option.some.inj (Option.some.inj z))).symm
    · rw [List.getElem?_set_ne hj] at e ⊢
      exact h4 i o e
  · by_cases hj : j = i
    · subst hj
      have hlt : j < δ.length := by
        have := (List.getElem?_eq_some_iff.mp e).1
        rwa [List.length_set] at this
      rw [List.getElem?_set_self hlt] at e
      cases e
      exact ⟨.ref q, by rw [List.getElem?_set_self (by rw [← I.len]; exact hlt)], q, rfl, hO, .inr hB, .inr hB, xs, hx, r⟩
    · rw [List.getElem?_set_ne hj] at e
      obtain ⟨u, h1, h2⟩ := I.slots i sl e
      exact ⟨u, by rw [List.getElem?_set_ne hj]; exact h1, h2⟩
  · by_cases h1 : j = i
    · by_cases h2 : j = k
      · exact h1.symm.trans h2
      · subst h1
        have hlt : j < δ.length := by
          have := (List.getElem?_eq_some_iff.mp e1).1
          rwa [List.length_set] at this
        rw [List.getElem?_set_self (by rw [← I.len]; exact hlt)] at e3
        have ep : q = p := V.ref.inj (Option.some.inj (Option.some.inj e3))
        rw [List.getElem?_set_ne h2] at e2 e4
        exact (old k o' e2 (by rw [ep]; exact e4)).elim
    · rw [List.getElem?_set_ne h1] at e1 e3
      by_cases h2 : j = k
      · subst h2
        have hlt : j < δ.length := by
          have := (List.getElem?_eq_some_iff.mp e2).1
          rwa [List.length_set] at this
        rw [List.getElem?_set_self (by rw [← I.len]; exact hlt)] at e4
        have ep : q = p := V.ref.inj (Option.some.inj (Option.some.inj e4))
        exact (old i o e1 (by rw [ep]; exact e3)).elim
      · rw [List.getElem?_set_ne h2] at e2 e4
        exact I.sep i k o o' p e1 e2 e3 e4
/-- what a call has made becomes the frame's own -/
theorem AtO.grown {G : Glo} {B : Hp} {O0 M O : List Addr} {Lk : Lks} {σ : L2.St} {τ : List (V × D)} {H H' : Hp} {xs : List V} {ds : List D} {q : Addr} {j : Nat} (I : AtO G B O0 M Lk O δ σ τ H) (g : Gr [] [] H H') (nf : Nf H H') (hq : H q = none) (hx : H' q = some (.lst xs)) (r : RpA (vis (q :: O) H') xs ds) :
    AtO G B O0 M Lk (q :: O) (δ.set j (some (.own (.lst ds)))) (σ.set j (some (.ref q))) τ H' := by
  obtain ⟨L1, hs⟩ := Lk
  obtain ⟨J, _, _⟩ := I.hide (ob := .lst xs) hq
  have noh : ∀ p ∈ hs, p.1 ≠ q := fun p hp z => by
    have := (I.hid p hp).1
    rw [z, hq] at this
    cases this
  have g2 : Gr [] [] (upd H q (.lst xs)) H' := fun a o ha e => by
    by_cases z : a = q
    · rw [z, upd_same] at e
      cases e
      rw [z]
      exact .inl hx
    · rw [upd_ne z] at e
      exact g a o ha e
  have nf2 : Nf (upd H q (.lst xs)) H' := fun a od u e => by
    by_cases z : a = q
    · rw [z, upd_same]
      exact fun w => nomatch w
    · rw [upd_ne z]
      exact nf a od u e
  exact (J.grow g2 (fun _ z => nomatch z) (fun _ z => nomatch z) (fun _ z => nomatch z) (fun _ z => nomatch z) nf2).ownH noh r
/-! ### promises of a new list -/
def spN (Tb : List Addr) (m n : Nat) (pre : List D → Prop) (post : List D → List D → Prop) : Sp := fun vs H Q _ => ∃ (O0 M : List Addr) (ws : List V) (ds : List D),
  vs = M.map V.ref ++ ws ∧ M.length = m ∧ (∀ p ∈ M, p ∈ O0) ∧ (∀ p ∈ O0, H p ≠ none) ∧ (∀ f ∈ M, FeedAt H f) ∧ (∀ P ∈ Tb, GxR.TabG H P) ∧ RpA (vis O0 H) ws ds ∧ ds.length = n ∧ pre ds ∧
  ∀ q xs rs H', Gr M [] H H' → Nf H H' → (∀ f ∈ M, FeedAt H' f) → H q = none → H' q = some (.lst xs) → RpA (vis (q :: O0) H') xs rs → post ds rs → Q (.ref q) H'
theorem spN_spD {P : Program} {w : World} {K : PySem.W.Frag} {mg : Str → Option Value} {base : Heap} {CX : CXT} {k m n : Nat} {f : Addr} {fd : FuncData} {ps : List Str} {pre : List D → Prop} {post : List D → List D → Prop} (F : FnOk P w K mg base CX k f fd ps (spN Tb m n pre post)) :
    FnOk P w K mg base CX k f fd ps (spD Tb m n pre fun ds d => ∃ rs, d = .list rs ∧ post ds rs) :=
  F.imp fun vs H Q E ⟨O0, M, ws, ds, h1, h2, h3, h4, h5, h6, h7, h8, h9, q⟩ => ⟨O0, M, ws, ds, h1, h2, h3, h4, h5, h6, h7, h8, h9, fun p xs rs H' g nf hf hp hx r hpost =>
    q _ _ H' g nf hf (.lst (by rw [vis_out fun z => h4 p z hp]; exact hx) (r.mono (vis_le fun a ha => List.mem_cons_of_mem _ ha))) ⟨rs, rfl, hpost⟩⟩
/-- e makes a new list, which nothing holds -/
def wpH (X : Cx) (Tb : List Addr) (e : Expr) (δ : Dl) (P : List D → Prop) : Prop := ∀ B O0 M Lk σ τ H, At (GX X Tb) B O0 M Lk δ σ τ H → ∀ Q : VK,
  (∀ O xs ds q H', AtO (GX X Tb) B O0 M (Lk.1, (q, .lst xs) :: Lk.2) O δ σ τ H' → (∀ p ∈ Lk.2, p.1 ≠ q) → RpA (vis O H') xs ds → P ds → Q (.ref q) H') → semE X e σ H Q
theorem wpH_F {P : List D → Prop} (h : wpF X Tb e δ P) : wpH X Tb e δ P := fun B O0 M Lk σ τ H I Q q => h B O0 M Lk σ τ H I Q fun O xs ds p H' J hp r k => by
  obtain ⟨J2, ve, _⟩ := J.hide (ob := .lst xs) hp
  refine q _ xs ds p _ J2 (fun r hr z => ?_) (by rw [ve]; exact r) k
  have := (J.hid r hr).1
  rw [z, hp] at this
  cases this
/-- a def of two statements: the second one returns a new list -/
theorem fn_okN {Pg : Program} {w : World} {K : PySem.W.Frag} {mg : Str → Option Value} {base : Heap} {x qual : Str} {st s1 : Stmt} {e : Expr} {rp : Pos} {f c : Addr} {fd : FuncData} {N ps : List Str} {k m n : Nat} {Tb : List Addr} {pre : List D → Prop} {post : List D → List D → Prop} (F : FunC K x qual st f c fd) (S : FnScope N ps (defScope st)) (hm : m ≤ 1) (hn : ps.length = m + n) (hd2 : defBody st = [s1, .Return (some e) rp])
    (hbody : ∀ (A : Around) (outer : List Env) (s : Shared) (H : Hp) (E : XK) (ds : List D), Room k (A.deeper (PyProof.Rows.envOfC qual (defScope st) s.heap.objs.size f (.ref c))) → ds.length = n → pre ds →
      wpS (cxOf CX0 Pg w K mg base N qual (defScope st) f (.ref c) A outer s H E).nox Tb s1 (startD m ds N) { nx := fun δ' => wpH (cxOf CX0 Pg w K mg base N qual (defScope st) f (.ref c) A outer s H E).nox Tb e δ' (post ds), rt := fun _ => False }) : FnOk Pg w K mg base CX0 (k + 1) f fd ps (spN Tb m n pre post) := by
  obtain ⟨oc, od, kV, doc, pm, an, ct, osl, rfl, lk, hcd⟩ := F.ex
  have hpl : ps.length ≤ N.length := by have := congrArg List.length S.pre; rw [List.length_take] at this; omega
  refine fn_of lk hcd S (fun vs H Q E h => ?_) fun A outer s H vs Q E hr hsp => ?_
  · obtain ⟨O0, M, ws, ds, rfl, hMl, _, _, _, _, r, hd, _⟩ := h
    rw [List.length_append, List.length_map, r.length, hMl, hd, hn]
  · obtain ⟨O0, M, ws, ds, rfl, hMl, h1, h2, h3, h4, r, hd, hp, q⟩ := hsp
    have hb := hbody A outer s H E ds hr hd hp
    subst hMl
    have I := at_start (G := ⟨K, Tb⟩) (N := N) hm h1 h2 h3 h4 r (by omega)
    rw [hd2]
    have hb1 := hb H O0 M ([], []) _ [] H I
    refine ⟨_, PSs.nox (pss_cons ps_sem (pss_one (ps_ret pe_sem))), semS_le ⟨fun σ' H' h => ?_, fun v H' h => ?_, fun _ _ h => ?_, fun _ _ h => ?_⟩ hb1⟩
    · obtain ⟨δ', J, h⟩ := h
      refine h H O0 M ([], []) σ' [] H' J _ fun O xs rs p H2 J2 noh rx hpost => ?_
      obtain ⟨hx, hO, hB, _⟩ := J2.hid _ List.mem_cons_self
      refine q p xs rs H2 J2.gr (fun a od u e => (J2.nof a od u e).resolve_right (fun z => nomatch z)) J2.feeds hB hx (rx.mono (vis_le fun a ha => ?_)) hpost
      rcases List.mem_cons.mp ha with e | ha
      · rw [e]; exact hO
      · exact J2.sub0 a ha
    · obtain ⟨d, J, h⟩ := h
      exact h.elim
    · obtain ⟨_, _, h⟩ := h
      exact h.elim
    · obtain ⟨_, _, h⟩ := h
      exact h.elim
/-- name = f(..), f with the promise of a new list -/
theorem wpS_callN {x xF : Str} {px pF : Pos} {fA : Addr} {fd : FuncData} {k n : Nat} {ps : List Str} {pre : List D → Prop} {post : List D → List D → Prop} (j : Nat) (F : FnOk X.prog X.w X.K X.mg X.base CX0 k fA fd ps (spN Tb 0 n pre post)) (hr : Room k X.A) (hm : X.mg xF = some (.ref fA)) (hk : PySem.W.keepIn X.K (.ref fA) = true) (hb : Binds X.K fd ps [])
    (h : wpA X Tb (e :: es) δ fun ds => ds.length = n ∧ pre ds ∧ ∀ rs, post ds rs → R.nx (δ.set j (some (.own (.lst rs))))) (hN : X.N.Nodup) (hi : X.N[j]? = some x := by rfl) (hx : Loc X.env.scope x := by first | exact Or.inl rfl | exact Or.inr rfl)
    (hg : Gl X xF := by rfl) (hdb : (xF == ("__debug__" : Str)) = false := by decide) (he : starEach (e :: es) X.env = (false, eval e X.env) :: starEach es X.env := by rfl) (hpl : (backTo p (starEach es X.env)).any (·.1) = false := by rfl)
    (hs : swapsWith (.Call (.Name xF pF) (e :: es) [] p) (some (.Name x px)) pos.line X.env = pure false := by rfl) (hf : X.fn x = true ∨ X.env.scope.names.lookup x = some .local := by first | exact .inl rfl | exact .inr rfl) :
    wpS X Tb (.Assign [.Name x px] (.Call (.Name xF pF) (e :: es) [] p) pos) δ R := fun B O0 M Lk σ τ H I =>
  sem_s (ps_set hN hi hx (pe_call F hr hg hm hk hb .nil (pass0 (X := X)) pa_sem hdb he hpl) hs hf) (h B O0 M Lk σ τ H I _ fun ps H1 J h1 => by
    obtain ⟨O, J⟩ := J
    obtain ⟨J0, r⟩ := J.popA
    obtain ⟨h1, h2, h3⟩ := h1
    exact ⟨O, [], ps.map (·.1), ps.map (·.2), List.append_nil _, rfl, (fun _ z => nomatch z), J.live, (fun _ z => nomatch z), J.tabs, r, h1, h2, fun q xs rs H' g nf _ hq hx rx hp => ⟨_, ⟨_, J0.grown (j := j) g nf hq hx rx⟩, h3 rs hp⟩⟩)
theorem lc_qH {scope : Scope} {P : D → Prop} {c : Option Expr} {x : Str} {wi : TI} (j : Nat) (hj : δ[j]? = some none)
    (hw : ∀ B O0 M Lk σ τ H, At (GX X Tb) B O0 M Lk δ σ τ H → ∀ R : It → Hp → Prop, (∀ J ds κ H', At (GX X Tb) B O0 M Lk δ σ (κ ++ τ) H' → IterJ (GX X Tb) J ds κ → LcG X Tb scope elt δ j c P ds → R J H') → wi σ H R)
    {B : Hp} {O0 M : List Addr} {Lk : Lks} {σ : L2.St} {τ : List (V × D)} {H : Hp} (I : At (GX X Tb) B O0 M Lk δ σ τ H) {Q : VK} (q : ∀ O xs ds q H', AtO (GX X Tb) B O0 M (Lk.1, (q, .lst xs) :: Lk.2) O δ σ τ H' → (∀ p ∈ Lk.2, p.1 ≠ q) → RpA (vis O H') xs ds → P (.list ds) → Q (.ref q) H') :
    tLc wi (gName j) (lcT X scope c) (fun σ H' Q => ∀ z H C cl fp, semE (blkX X z H scope C cl fp) elt σ H' Q) ([(x, j)].map (·.2)) σ H Q := by
  refine hw B O0 M Lk σ τ H I _ fun J ds κ H1 I1 it h1 => ?_
  obtain ⟨hlen, Iv, h0, hstep, hend⟩ := h1
  obtain ⟨O, I1⟩ := I1
  intro L hL
  obtain ⟨I2, ve, hBL⟩ := I1.hide (q := L) (ob := .lst []) hL
  have noh : ∀ p ∈ Lk.2, p.1 ≠ L := fun p hp z => by
    have := (I1.hid p hp).1
    rw [z, hL] at this
    cases this
  refine ⟨fun i m H => m = ds.length - i ∧ i ≤ ds.length ∧ ∃ ps : List (V × D), At (GX X Tb) B O0 M (Lk.1, (L, .lst (ps.map (·.1))) :: Lk.2) δ σ (ps ++ (κ ++ τ)) H ∧ ps.length ≤ i ∧ Iv i (ps.map (·.2)), ⟨_, rfl, Nat.zero_le _, [], ⟨_, I2⟩, Nat.le_refl _, h0⟩, fun i m H ⟨em, hi, ps, ⟨O, I3⟩, hal, hv⟩ => ?_⟩
  have itv := it B O0 M _ O δ σ (ps ++ (κ ++ τ)) H I3 (fun p hp => List.mem_append.mpr (.inr (List.mem_append.mpr (.inl hp)))) i
  by_cases hlt : i < ds.length
  · obtain ⟨go, yl⟩ := itv.1 hlt
    refine .inr ⟨go, fun H' => ∃ ps : List (V × D), At (GX X Tb) B O0 M (Lk.1, (L, .lst (ps.map (·.1))) :: Lk.2) δ σ (ps ++ (κ ++ τ)) H' ∧ ps.length ≤ i + 1 ∧ Iv (i + 1) (ps.map (·.2)), fun H' q1 => ⟨ds.length - (i + 1), by omega, rfl, hlt, q1⟩, fun v H' hy => ?_⟩
    obtain ⟨d, hd, I4⟩ := yl v H' hy
    obtain ⟨I5, rv⟩ := I4.pop1
    have ew : ∀ u, L2.wipe ((L2.wipe σ [j]).set j (some u)) [j] = L2.wipe σ [j] := fun u => by
      show ((σ.set j none).set j (some u)).set j none = σ.set j none
      rw [List.set_set, List.set_set]
    have eσ : ∀ u : Option V, List.set (L2.wipe σ (List.map (fun x => x.2) [(x, j)])) j u = σ.set j u := fun u => by
      show (σ.set j none).set j u = σ.set j u
      rw [List.set_set]
    refine ⟨ew v, ?_⟩
    rw [eσ]
    have I6 := I5.set (j := j) rv
    have back : ∀ {O : List Addr} {τ' : List (V × D)} {H4 : Hp}, AtO (GX X Tb) B O0 M (Lk.1, (L, .lst (ps.map (·.1))) :: Lk.2) O (δ.set j (some (.d d))) (σ.set j (some v)) τ' H4 → AtO (GX X Tb) B O0 M (Lk.1, (L, .lst (ps.map (·.1))) :: Lk.2) O δ σ τ' H4 := fun I =>
      I.unset hj (by rw [List.length_set]) fun i n => by rw [List.getElem?_set_ne (Ne.symm n)]
    have fin : ∀ {y : V} {dy : D} {H4 : Hp}, At (GX X Tb) B O0 M (Lk.1, (L, .lst (ps.map (·.1))) :: Lk.2) (δ.set j (some (.d d))) (σ.set j (some v)) ((y, dy) :: (ps ++ (κ ++ τ))) H4 → Iv (i + 1) (ps.map (·.2) ++ [dy]) →
        ∃ acc, H4 L = some (.lst acc) ∧ acc.length < sizeLine ∧ ∃ ps : List (V × D), At (GX X Tb) B O0 M (Lk.1, (L, .lst (ps.map (·.1))) :: Lk.2) δ σ (ps ++ (κ ++ τ)) (upd H4 L (.lst (acc ++ [y]))) ∧ ps.length ≤ i + 1 ∧ Iv (i + 1) (ps.map (·.2)) := fun {y dy H4} ⟨O4, I7⟩ hq => by
      have I8 := back I7
      refine ⟨_, (I8.hid _ List.mem_cons_self).1, ?_, ps ++ [(y, dy)], ?_, ?_, ?_⟩
      · rw [List.length_map]
        exact Nat.lt_of_le_of_lt (Nat.le_trans hal hi) hlen
      · obtain ⟨I9, _⟩ := I8.turn (ob' := .lst (ps.map (·.1) ++ [y])) noh
        rw [List.map_append]
        refine ⟨O4, I9.drops fun p hp => ?_⟩
        simp only [List.append_assoc, List.mem_append, List.mem_cons, List.cons_append, List.nil_append] at hp ⊢
        rcases hp with h | h | h
        · exact .inr (.inl h)
        · exact .inl h
        · exact .inr (.inr h)
      · rw [List.length_append]
        exact Nat.succ_le_succ hal
      · rw [List.map_append]
        exact hq
    have st := hstep i d _ hd hv
    cases c with
    | none => exact fun z H C cl fp => st z H C cl fp B O0 M _ _ _ _ ⟨O, I6⟩ _ fun y dy H4 I7 hq => fin I7 hq
    | some t =>
      obtain ⟨T, t1, t2, t3⟩ := st
      intro z H C cl fp
      refine t1 z H C cl fp B O0 M _ _ _ _ ⟨O, I6⟩ _ fun k H3 I7 hq => ?_
      cases k with
      | true => exact fun z H C cl fp => t2 hq z H C cl fp B O0 M _ _ _ _ I7 _ fun y dy H4 I8 hq => fin I8 hq
      | false =>
        obtain ⟨O4, I7⟩ := I7
        exact ⟨ps, ⟨O4, back I7⟩, Nat.le_succ_of_le hal, t3 hq⟩
  · have e : i = ds.length := by omega
    subst e
    refine .inl ⟨itv.2 (Nat.le_refl _), q _ _ _ _ _ (I3.drops (τ' := τ) fun p hp => ?_) noh (rpA_of fun p hp => I3.tmp p (List.mem_append.mpr (.inl hp))) (hend _ hv)⟩
    exact List.mem_append.mpr (.inr (List.mem_append.mpr (.inr hp)))
/-- [elt for x in iter if c ..]: Iv by the number of items taken and the list made -/
theorem wpH_lc {x : Str} {px : Pos} {ifs : List Expr} {scope : Scope} {P : List D → Prop} {c : Option Expr} (j : Nat) (hj : δ[j]? = some none)
    (h : wpI X Tb (.Name x px) iter δ (LcG X Tb scope elt δ j c fun d => ∃ ds, d = .list ds ∧ P ds))
    (hc : X.calm = true) (hN : X.N.Nodup) (ok : BlkOk X.N X.env.scope scope [(x, j)]) (hifs : ifs = c.toList) (hi : X.N[j]? = some x := by rfl) (hloc : ∀ C cl, Loc (compEnvC scope cl C X.env).scope x := by intro _ _; first | exact Or.inl rfl | exact Or.inr rfl)
    (hlo : ∀ C cl, (compEnvC scope cl C X.env).scope.names.lookup x = some .local := by intro _ _; rfl)
    (hs : ∀ x, foldedSetIterable iter X.env x = pure x := by intro _; rfl) : wpH X Tb (.ListComp elt [⟨.Name x px, iter, ifs, 0⟩] scope pos) δ P := fun B O0 M Lk σ τ H I Q q => by
  obtain ⟨wi, hwi, hw⟩ := h
  have gtr : ∀ (z : Shared) (H : Hp) (C : Addr) (cl : List (Str × Addr)) (fp : List Addr), PG (X.blk z H scope (compEnvC scope cl C X.env) fp) (.Name x px) (gName j) := fun z H C cl fp => pg_name hN hi (hloc C cl) (.inr (hlo C cl))
  have etr : ∀ (z : Shared) (H : Hp) (C : Addr) (cl : List (Str × Addr)) (fp : List Addr), PE (X.blk z H scope (compEnvC scope cl C X.env) fp) elt (fun σ H' Q => ∀ z H C cl fp, semE (blkX X z H scope C cl fp) elt σ H' Q) := fun z H C cl fp => ⟨fun pins s σ H' Q I h => (h z H C cl fp).run pins s I⟩
  have ttr : ∀ (z : Shared) (H : Hp) (C : Addr) (cl : List (Str × Addr)) (fp : List Addr), PTs (X.blk z H scope (compEnvC scope cl C X.env) fp) ifs (lcT X scope c) := fun z H C cl fp => by
    subst hifs
    cases c with
    | none => exact pts_nil
    | some t => exact pts_one ⟨fun pins s σ H' Q I h => (h z H C cl fp).run pins s I⟩
  exact sem_e (pe_lc hc hN hwi ok gtr ttr etr hs) (lc_qH j hj hw I fun O xs ds q' H' J noh r ⟨ds', e, hp⟩ => q O xs ds q' H' J noh r (by cases e; exact hp))
/-! ### enumerate -/
def enumD (ds : List D) : List D := ds.zipIdx.map fun q => .tuple [.int (q.2 : Nat), q.1]
theorem iterE {G : Glo} {a : Addr} {ds : List D} : IterJ G (Ite G.K a) (enumD ds) [(.ref a, .list ds)] := by
  intro B O0 M Lk O δ σ τ H I hk i
  have r := I.tmp _ (hk _ List.mem_cons_self)
  obtain ⟨a', xs, e, ha, rx⟩ := Rp.list' r
  obtain rfl := V.ref.inj e
  have hS : SqL G.K H a xs := SqL.of (vis_some ha).2
  have hl : (enumD ds).length = ds.length := by unfold enumD; rw [List.length_map, List.length_zipIdx]
  rw [hl]
  refine ⟨fun hi => ?_, fun hi => ⟨xs, hS, by rw [rx.length]; exact hi⟩⟩
  obtain ⟨v, hv, rv⟩ := rx.get (List.getElem?_eq_getElem hi)
  refine ⟨⟨xs, v, hS, hv⟩, fun x H' hy => ?_⟩
  obtain ⟨T, y, rfl, hT, rfl, hy⟩ := hy
  have e := hy xs hS
  rw [hv] at e
  cases e
  refine ⟨.tuple [.int (i : Nat), ds[i]], ?_, I.newTup (.cons (.int _) (.cons rv .nil)) hT⟩
  unfold enumD
  rw [List.getElem?_map, List.getElem?_zipIdx, List.getElem?_eq_getElem hi]
  simp
theorem wpI_enum {tes : List Expr} {kk : Nat} {tpos : Pos} {P : List D → Prop} (hm : X.mg "enumerate" = none) (h : wpE X Tb e δ fun d => ∃ ds, d = .list ds ∧ P (enumD ds)) (hg : Gl X "enumerate" := by rfl) (hs : starEach [e] X.env = [(false, eval e X.env)] := by rfl) : wpI X Tb (.Tuple tes kk tpos) (.Call (.Name "enumerate" p) [e] [] pos) δ P :=
  ⟨_, pi_enum hg hm (pa_cons pe_sem pa_nil hs) hs, fun B O0 M Lk σ τ H I R q => h B O0 M Lk σ τ H I _ fun v d H' J h1 => by
    obtain ⟨ds, rfl, h1⟩ := h1
    obtain ⟨O, J⟩ := J
    obtain ⟨a, xs, rfl, ha, rx⟩ := (J.tmp _ List.mem_cons_self).list'
    exact ⟨a, xs, rfl, SqL.of (vis_some ha).2, q _ _ [(.ref a, .list ds)] H' ⟨O, J⟩ iterE h1⟩⟩
/-! ### reading a list of one's own -/
theorem wpE_reprO {y : Str} {py pF : Pos} {ds : List D} {P : D → Prop} {p n : Nat} (j : Nat) (CR : CallR X (.builtin "repr") rReprD) (hm : X.mg "repr" = none) (hj : δ[j]? = some (some (.own (.lst ds)))) (hS : Sm p n (.list ds)) (hp : p ≤ 64) (hn : n ≤ 2 ^ 20) (h : P (.str (PyData.shown (.list ds)))) (hN : X.N[j]? = some y := by rfl)
    (hv : Vis X.env.scope y := by first | exact Or.inl rfl | exact Or.inr (Or.inl rfl) | exact Or.inr (Or.inr rfl)) (h1 : (y == ("__debug__" : Str)) = false := by decide) (h2 : (y == ("__classdict__" : Str)) = false := by decide) (hg : Gl X "repr" := by rfl)
    (he : starEach [.Name y py] X.env = (false, eval (.Name y py) X.env) :: starEach [] X.env := by rfl) (hpl : (backTo pos (starEach [] X.env)).any (·.1) = false := by rfl) : wpE X Tb (.Call (.Name "repr" pF) [.Name y py] [] pos) δ P := fun B O0 M Lk σ τ H I Q q => by
  obtain ⟨O, J⟩ := id I
  obtain ⟨v, e, a, rfl, _, _, _, xs, hx, r⟩ := J.slots j _ hj
  refine sem_e (pe_callB CR hg hm boot_repr' (pa_cons (pe_var hN hv h1 h2) pa_nil he) (by decide) (by decide) he hpl) ?_
  exact ⟨.ref a, e, a, .list ds, rfl, .lst hx (r.mono vis_all), hS.sh, Nat.le_trans hS.dp hp, PyData.shown_fits (B := 13) (by decide) (by decide) hS.lv (Nat.le_trans hS.wt hn), q _ _ H (I.pushS fun _ => .str _) h⟩
theorem wpE_isiO {y x : Str} {T : String} {py px pF : Pos} {ds : List D} {P : D → Prop} (j : Nat) (hm : X.mg "isinstance" = none) (hmT : X.mg x = none) (hbT : bootBuiltins x = some (.type T)) (hj : δ[j]? = some (some (.own (.lst ds)))) (h : ∃ k, kitB "list" T = some k ∧ P (.bool k)) (hN : X.N[j]? = some y := by rfl)
    (hv : Vis X.env.scope y := by first | exact Or.inl rfl | exact Or.inr (Or.inl rfl) | exact Or.inr (Or.inr rfl)) (h1 : (y == ("__debug__" : Str)) = false := by decide) (h2 : (y == ("__classdict__" : Str)) = false := by decide) (hg : Gl X "isinstance" := by rfl) (hgT : Gl X x := by rfl) (hn : x ≠ "__name__" := by decide) (hd : (x == ("__debug__" : Str)) = false := by decide)
    (he : starEach [.Name y py, .Name x px] X.env = (false, eval (.Name y py) X.env) :: starEach [.Name x px] X.env := by rfl) (hpl : (backTo pos (starEach [.Name x px] X.env)).any (·.1) = false := by rfl) (he2 : starEach [.Name x px] X.env = (false, eval (.Name x px) X.env) :: starEach [] X.env := by rfl) : wpE X Tb (.Call (.Name "isinstance" pF) [.Name y py, .Name x px] [] pos) δ P := fun B O0 M Lk σ τ H I Q q => by
  obtain ⟨O, J⟩ := id I
  obtain ⟨v, e, a, rfl, _, _, _, xs, hx, r⟩ := J.slots j _ hj
  obtain ⟨k, hk, h⟩ := h
  refine sem_e (pe_callB call_isi hg hm (by decide +kernel) (pa_cons (pe_var hN hv h1 h2) (pa_cons (pe_bltn (v := .ty T) hgT hmT hbT rfl hn hd) pa_nil he2) he) (by decide) (by decide) he hpl) ?_
  exact ⟨.ref a, e, .ref a, .ty T, .type "list", .type T, k, rfl, .ty T, .base (.lst hx), kit_ty hk, q _ _ H (I.pushS fun _ => .bl k) h⟩
end
end DL

set_option Elab.async false
set_option linter.all false
set_option maxRecDepth 100000
set_option maxHeartbeats 2000000
/-! DL21: signs of texts, all, tuple(list). -/
namespace DL
open PySem PySem.Spec L2
section
variable {X : Cx} {Tb : List Addr} {δ : Dl} {tg e a b iter elt : Expr} {pos p : Pos}
def signsD (z : Str) : List D := z.cps.toList.map fun c => .str ⟨#[c]⟩
theorem iterS {G : Glo} {z : Str} {κ : List (V × D)} : IterJ G (Its z) (signsD z) κ := by
  intro B O0 M Lk O δ σ τ H I _ i
  have hl : (signsD z).length = z.cps.size := by unfold signsD; rw [List.length_map, Array.length_toList]
  rw [hl]
  refine ⟨fun hi => ⟨hi, fun x H' hy => ?_⟩, fun hi => hi⟩
  obtain ⟨rfl, c, hc, rfl⟩ := hy
  refine ⟨.str ⟨#[c]⟩, ?_, I.push (.str _)⟩
  unfold signsD
  rw [List.getElem?_map, Array.getElem?_toList, hc]
  rfl
theorem wpI_str {P : List D → Prop} (h : wpE X Tb iter δ fun d => ∃ z, d = .str z ∧ P (signsD z)) : wpI X Tb tg iter δ P := ⟨_, pi_str pe_sem, fun B O0 M Lk σ τ H I R q => h B O0 M Lk σ τ H I _ fun v d H' J h1 => by
  obtain ⟨z, rfl, h1⟩ := h1
  obtain ⟨O, J⟩ := J
  obtain ⟨J0, rv⟩ := J.pop1
  exact ⟨z, rv.str', q _ _ [] H' ⟨O, J0⟩ iterS h1⟩⟩
def signR (f : Bool → Bool) : D → D → (D → Prop) → Prop
  | .str c, .str z, P => ∃ k, c = ⟨#[k]⟩ ∧ P (.bool (f (decide (k ∈ z.cps.toList))))
  | _, _, _ => False
theorem ok_sign : Ok2 X Tb (fun x y H Q => ∃ (c : Nat) (z : Str), x = .str ⟨#[c]⟩ ∧ y = .str z ∧ Q (.bl (decide (c ∈ z.cps.toList))) H) (signR fun k => k) := by
  intro B O0 M Lk O δ σ τ H x y d1 d2 P I rx ry h Q q
  unfold signR at h
  split at h
  · obtain ⟨k, rfl, h⟩ := h
    rw [rx.str', ry.str']
    exact ⟨k, _, rfl, rfl, q _ _ H ⟨O, I.push (.bl _)⟩ h⟩
  · exact h.elim
theorem ok_nsign : Ok2 X Tb (fun x y H Q => ∃ (c : Nat) (z : Str), x = .str ⟨#[c]⟩ ∧ y = .str z ∧ Q (.bl (!decide (c ∈ z.cps.toList))) H) (signR fun k => !k) := by
  intro B O0 M Lk O δ σ τ H x y d1 d2 P I rx ry h Q q
  unfold signR at h
  split at h
  · obtain ⟨k, rfl, h⟩ := h
    rw [rx.str', ry.str']
    exact ⟨k, _, rfl, rfl, q _ _ H ⟨O, I.push (.bl _)⟩ h⟩
  · exact h.elim
def tupR : List D → (D → Prop) → Prop
  | [.list ds], P => P (.tuple ds)
  | [.tuple ds], P => P (.tuple ds)
  | _, _ => False
theorem ok_tup : OkC X Tb (fun xs H Q => ∃ p ys, xs = [.ref p] ∧ ((SqL X.K H p ys ∧ ∀ l, H l = none → Q (.ref l) (upd H l (.tup ys))) ∨ (SqT X.K H p ys ∧ Q (.ref p) H))) tupR := by
  intro B O0 M Lk O δ σ τ H vs ds P I r h Q q
  unfold tupR at h
  split at h
  · obtain ⟨v, rfl, rv⟩ := r.one'
    obtain ⟨p, xs, rfl, hp, rp⟩ := rv.list'
    exact ⟨p, xs, rfl, .inl ⟨SqL.of (vis_some hp).2, fun l hl => q _ _ _ ⟨O, I.newTup rp hl⟩ h⟩⟩
  · obtain ⟨v, rfl, rv⟩ := r.one'
    obtain ⟨p, xs, rfl, hp, rp⟩ := id rv.tuple'
    exact ⟨p, xs, rfl, .inr ⟨SqT.of (vis_some hp).2, q _ _ H ⟨O, I.push rv⟩ h⟩⟩
  · exact h.elim
theorem r_lenL {ds : List D} {P : D → Prop} (h : P (.int ds.length)) : lenR [.list ds] P := h
theorem r_lenT {ds : List D} {P : D → Prop} (h : P (.int ds.length)) : lenR [.tuple ds] P := h
theorem r_lenS {z : Str} {P : D → Prop} (hz : z.length ≤ sizeLine) (h : P (.int z.length)) : lenR [.str z] P := ⟨hz, h⟩
theorem r_addT {xs ys : List D} {P : D → Prop} (h0 : xs ≠ []) (h1 : Nat.ble (xs.length + ys.length) 1000 = true) (h : P (.tuple (xs ++ ys))) : addR (.tuple xs) (.tuple ys) P := ⟨⟨h0, Nat.le_trans (Nat.le_of_ble_eq_true h1) (by decide)⟩, h⟩
end
end DL

set_option Elab.async false
set_option linter.all false
set_option maxRecDepth 100000
set_option maxHeartbeats 2000000
/-! DL22: empty dicts, join, slices of lists and texts, a place of an own list, picks of signs. -/
namespace DL
open PySem PySem.Spec L2
section
variable {X : Cx} {Tb : List Addr} {δ : Dl} {a b e i o : Expr} {pos p p2 py apos : Pos} {P : D → Prop} {R : Rs} {x y : Str}
theorem wpE_disp0 (h : P (.dict [])) : wpE X Tb (.Dict [] [] pos) δ P := fun B O0 M Lk σ τ H I Q q => by
  obtain ⟨O, I⟩ := I
  refine sem_e pe_dnewK fun p hp => ?_
  obtain ⟨J, hn⟩ := I.alloc (o := .dK []) hp
  exact q _ _ _ ⟨O, J.push (.dic (kvs := []) (.inl (by rw [vis_out hn, upd_same])) List.nodup_nil .nil)⟩ h
theorem wpE_dnin (hu : X.A.units + 1 < cLine) (h : wpE X Tb a δ fun d1 => wpE X Tb b δ fun d2 => dinR d1 d2 fun d => ∃ k, d = .bool k ∧ P (.bool (!k))) (hm : behindInMarks .NotIn b = false := by rfl) : wpE X Tb (.Compare a [.NotIn] [b] pos) δ P := fun B O0 M Lk σ τ H I Q q =>
  sem_e (pe_cmp (pc_dnotin hu pe_sem pe_sem) hm) (h B O0 M Lk σ τ H I _ fun x d1 H1 I1 h1 => h1 B O0 M Lk σ _ H1 I1 _ fun y d2 H2 I2 h2 => by
    obtain ⟨O, J⟩ := I2
    obtain ⟨J0, rx, ry⟩ := J.pop2
    have h2 : dinR d1 d2 fun d => ∃ k, d = .bool k ∧ P (.bool (!k)) := h2
    unfold dinR at h2
    split at h2
    · obtain ⟨p, r, rfl, hg, he⟩ := dget_of rx ry h2.1
      refine ⟨p, r, rfl, hg, ?_⟩
      rw [he]
      obtain ⟨k, e, h3⟩ := h2.2
      cases e
      exact q _ _ H2 ⟨O, J0.push (.bl _)⟩ h3
    · exact h2.elim)
theorem strs_of {H : Hp} : ∀ {xs : List V} {ys : List Str}, RpA H xs (ys.map .str) → xs = ys.map V.str
  | [], [], _ => rfl
  | _ :: _, y :: ys, .cons h r => by
    rw [h.str', strs_of r]
    rfl
theorem wpE_join (h : wpE X Tb o δ fun d1 => ∃ a : Str, d1 = .str a ∧ wpE X Tb e δ fun d2 => ∃ ys : List Str, d2 = .list (ys.map .str) ∧ (ys.map fun x => x.length).sum + ys.length * a.length ≤ 16777216 ∧ P (.str (Txt.join a ys)))
    (hs : starEach [e] X.env = [(false, eval e X.env)] := by rfl) (ha : attributeBase o "join" X.env (eval o X.env) = eval o X.env := by rfl) (hl : (apos.endLine == pos.line) = true := by rfl) : wpE X Tb (.Call (.Attribute o "join" apos) [e] [] pos) δ P := fun B O0 M Lk σ τ H I Q q =>
  sem_e (pe_join pe_sem pe_sem hs ha hl) (h B O0 M Lk σ τ H I _ fun v d1 H1 I1 h1 => by
    obtain ⟨a, rfl, h1⟩ := h1
    obtain ⟨O, K⟩ := id I1
    have ev : v = .str a := (K.tmp _ List.mem_cons_self).str'
    refine ⟨⟨a, ev⟩, h1 B O0 M Lk σ _ H1 I1 _ fun u d2 H2 I2 h2 => ?_⟩
    obtain ⟨ys, rfl, hlen, h2⟩ := h2
    obtain ⟨O, J⟩ := I2
    obtain ⟨J0, _, ru⟩ := J.pop2
    obtain ⟨ad, xs, rfl, had, rx⟩ := ru.list'
    obtain rfl := strs_of rx
    exact ⟨a, ad, ys, ev, rfl, .inl (SqL.of (vis_some had).2), hlen, q _ _ H2 ⟨O, J0.push (.str _)⟩ h2⟩)
/-- a[:k], a list -/
theorem wpE_takeL (h : wpE X Tb a δ fun d => ∃ ds, d = .list ds ∧ wpE X Tb b δ fun n => ∃ k : Nat, n = .int (k : Nat) ∧ P (.list (ds.take k))) : wpE X Tb (.Subscript a (.Slice none (some b) none p2) pos) δ P := fun B O0 M Lk σ τ H I Q q =>
  sem_e (pe_slice sl_list pe_sem po_none (po_some pe_sem)) (h B O0 M Lk σ τ H I _ fun x d1 H1 I1 h1 => by
    obtain ⟨ds, rfl, h1⟩ := h1
    refine h1 B O0 M Lk σ _ H1 I1 _ fun y d2 H2 I2 h2 => ?_
    obtain ⟨k, rfl, h2⟩ := h2
    obtain ⟨O, J⟩ := I2
    obtain ⟨J0, rx, ry⟩ := J.pop2
    obtain ⟨ad, xs, rfl, ha, rxs⟩ := rx.list'
    refine ⟨(k : Nat), ry.int', ad, xs, rfl, SqL.of (vis_some ha).2, fun p hp => ?_⟩
    rw [take_cut]
    exact q _ _ _ ⟨O, J0.newLst (rxs.take k) hp⟩ h2)
/-- a[k:], a list -/
theorem wpE_dropL (h : wpE X Tb a δ fun d => ∃ ds, d = .list ds ∧ wpE X Tb b δ fun n => ∃ k : Nat, n = .int (k : Nat) ∧ P (.list (ds.drop k))) : wpE X Tb (.Subscript a (.Slice (some b) none none p2) pos) δ P := fun B O0 M Lk σ τ H I Q q =>
  sem_e (pe_slice sl_list pe_sem (po_some pe_sem) po_none) (h B O0 M Lk σ τ H I _ fun x d1 H1 I1 h1 => by
    obtain ⟨ds, rfl, h1⟩ := h1
    refine h1 B O0 M Lk σ _ H1 I1 _ fun y d2 H2 I2 h2 => ?_
    obtain ⟨k, rfl, h2⟩ := h2
    obtain ⟨O, J⟩ := I2
    obtain ⟨J0, rx, ry⟩ := J.pop2
    obtain ⟨ad, xs, rfl, ha, rxs⟩ := rx.list'
    refine ⟨(k : Nat), ry.int', ad, xs, rfl, SqL.of (vis_some ha).2, fun p hp => ?_⟩
    rw [drop_cut]
    exact q _ _ _ ⟨O, J0.newLst (rxs.drop k) hp⟩ h2)
/-- a[:k], a text -/
theorem wpE_takeS (h : wpE X Tb a δ fun d => ∃ z : Str, d = .str z ∧ z.length ≤ sizeLine ∧ wpE X Tb b δ fun n => ∃ k : Int, n = .int k ∧ P (.str (cutS z none (some k)))) : wpE X Tb (.Subscript a (.Slice none (some b) none p2) pos) δ P := fun B O0 M Lk σ τ H I Q q =>
  sem_e (pe_slice sl_str pe_sem po_none (po_some pe_sem)) (h B O0 M Lk σ τ H I _ fun x d1 H1 I1 h1 => by
    obtain ⟨z, rfl, hz, h1⟩ := h1
    refine h1 B O0 M Lk σ _ H1 I1 _ fun y d2 H2 I2 h2 => ?_
    obtain ⟨k, rfl, h2⟩ := h2
    obtain ⟨O, J⟩ := I2
    obtain ⟨J0, rx, ry⟩ := J.pop2
    exact ⟨k, ry.int', z, rx.str', hz, q _ _ H2 ⟨O, J0.push (.str _)⟩ h2⟩)
/-- a[k:], a text -/
theorem wpE_dropS (h : wpE X Tb a δ fun d => ∃ z : Str, d = .str z ∧ z.length ≤ sizeLine ∧ wpE X Tb b δ fun n => ∃ k : Int, n = .int k ∧ P (.str (cutS z (some k) none))) : wpE X Tb (.Subscript a (.Slice (some b) none none p2) pos) δ P := fun B O0 M Lk σ τ H I Q q =>
  sem_e (pe_slice sl_str pe_sem (po_some pe_sem) po_none) (h B O0 M Lk σ τ H I _ fun x d1 H1 I1 h1 => by
    obtain ⟨z, rfl, hz, h1⟩ := h1
    refine h1 B O0 M Lk σ _ H1 I1 _ fun y d2 H2 I2 h2 => ?_
    obtain ⟨k, rfl, h2⟩ := h2
    obtain ⟨O, J⟩ := I2
    obtain ⟨J0, rx, ry⟩ := J.pop2
    exact ⟨k, ry.int', z, rx.str', hz, q _ _ H2 ⟨O, J0.push (.str _)⟩ h2⟩)
theorem RpA.set {H : Hp} {v : V} {d : D} (h : Rp H v d) : ∀ {vs : List V} {ds : List D} (n : Nat), RpA H vs ds → RpA H (vs.set n v) (ds.set n d)
  | _, _, _, .nil => .nil
  | _, _, 0, .cons _ r => .cons h r
  | _, _, n + 1, .cons g r => .cons g (RpA.set h n r)
/-- name[i] = e, the list the frame's own -/
theorem wpS_putL {px spos : Pos} {ds : List D} (j : Nat) (hj : δ[j]? = some (some (.own (.lst ds)))) (h : wpE X Tb e δ fun d => wpE X Tb i δ fun k => ∃ n : Nat, k = .int (n : Nat) ∧ n < ds.length ∧ R.nx (δ.set j (some (.own (.lst (ds.set n d))))))
    (hN : X.N[j]? = some x := by rfl) (hv : Vis X.env.scope x := by first | exact Or.inl rfl | exact Or.inr (Or.inl rfl) | exact Or.inr (Or.inr rfl)) (h1 : (x == ("__debug__" : Str)) = false := by decide) (h2 : (x == ("__classdict__" : Str)) = false := by decide)
    (hg : ∀ v, assign (.Subscript (.Name x px) i spos) X.env v = (do
      let ov ← holding [v] (eval (.Name x px) X.env)
      let iv ← holding [v, ov] (eval i X.env)
      standAt spos
      holding [v, ov, iv] (setItem ov iv v)
      release [v, ov, iv] []) := by intro _; rfl)
    (hs : swapsWithSole [.Subscript (.Name x px) i spos] e pos.line X.env = pure false := by rfl) (hw : swappedStores [.Subscript (.Name x px) i spos] e X.env = pure none := by rfl)
    (ha : (assignEach [.Subscript (.Name x px) i spos] X.env).map (·.2) = [assign (.Subscript (.Name x px) i spos) X.env] := by rfl) : wpS X Tb (.Assign [.Subscript (.Name x px) i spos] e pos) δ R := fun B O0 M Lk σ τ H I =>
  sem_s (ps_asg pe_sem (pg_sub (pe_var hN hv h1 h2) pe_sem set_list hg) hs hw ha) (h B O0 M Lk σ τ H I _ fun u d H1 J q => by
    obtain ⟨O, K⟩ := id J
    obtain ⟨v, e0, _⟩ := K.slots j _ hj
    refine ⟨v, e0, q B O0 M Lk σ _ H1 J _ fun w k H2 J2 q2 => ?_⟩
    obtain ⟨n, rfl, hn, hq⟩ := q2
    obtain ⟨O2, K2⟩ := J2
    obtain ⟨v2, e2, p, rfl, hp, _, _, xs, hx, r⟩ := K2.slots j _ hj
    have ev : v = .ref p := Option.some.inj (Option.some.inj (e0.symm.trans e2))
    obtain ⟨K3, ru, rw⟩ := K2.pop2
    refine ⟨p, xs, (n : Nat), n, ev, rw.int', hx, ?_, ⟨_, ⟨O2, K3.mutL hj e2 (RpA.set ru n r)⟩, hq⟩⟩
    unfold ixN
    rw [if_pos (Int.natCast_nonneg n), if_pos (by rw [r.length]; exact Int.ofNat_lt.mpr hn)]
    rfl)
abbrev preS : List D → Prop := fun ds => ∃ z : Str, ds = [.str z] ∧ 0 < z.length ∧ Ok8 1000 z
abbrev postS : List D → D → Prop := fun ds d => ∃ (z : Str) (c : Nat), ds = [.str z] ∧ d = .str ⟨#[c]⟩ ∧ c ∈ z.cps.toList ∧ c < 16 ^ 8
/-- _law_pick(feed, e), e a text -/
theorem wpE_pickS {fA : Addr} {fd : FuncData} {k : Nat} {ps : List Str} (j : Nat) (F : FnOk X.prog X.w X.K X.mg X.base CX0 k fA fd ps (spD Tb 1 1 preS postS)) (hr : Room k X.A) (hm : X.mg x = some (.ref fA)) (hk : PySem.W.keepIn X.K (.ref fA) = true) (hb : Binds X.K fd ps [])
    (hj : δ[j]? = some (some (.own .feed))) (h : wpE X Tb e δ fun d => ∃ z : Str, d = .str z ∧ 0 < z.length ∧ Ok8 1000 z ∧ ∀ c, c ∈ z.cps.toList → c < 16 ^ 8 → P (.str ⟨#[c]⟩)) (hN : X.N[j]? = some y := by rfl)
    (hv : Vis X.env.scope y := by first | exact Or.inl rfl | exact Or.inr (Or.inl rfl) | exact Or.inr (Or.inr rfl)) (hd1 : (y == ("__debug__" : Str)) = false := by decide) (hd2 : (y == ("__classdict__" : Str)) = false := by decide)
    (hg : Gl X x := by rfl) (hdb : (x == ("__debug__" : Str)) = false := by decide) (he : starEach [.Name y py, e] X.env = (false, eval (.Name y py) X.env) :: starEach [e] X.env := by rfl) (hpl : (backTo pos (starEach [e] X.env)).any (·.1) = false := by rfl)
    (he2 : starEach [e] X.env = (false, eval e X.env) :: starEach [] X.env := by rfl) :
    wpE X Tb (.Call (.Name x p) [.Name y py, e] [] pos) δ P :=
  wpE_callF j F hr hm hk hb hj (wpA_cons (wpE_mono h fun d h => by
    obtain ⟨z, rfl, m0, m1, hz⟩ := h
    exact wpA_nil ⟨rfl, ⟨z, rfl, m0, m1⟩, fun d ⟨z', c, e1, e2, e3, e4⟩ => by
      cases e1
      rw [e2]
      exact hz c e3 e4⟩) he2) hN hv hd1 hd2 hg hdb he hpl
end
theorem ok8_cut {n : Nat} {z : Str} {lo hi : Option Int} (h : Ok8 n z) : Ok8 n (cutS z lo hi) := by
  have hl : (cutS z lo hi).cps.toList = List.take (HT.sIx z.length z.length hi - HT.sIx z.length 0 lo) (List.drop (HT.sIx z.length 0 lo) z.cps.toList) := by
    unfold cutS
    rfl
  refine ⟨?_, fun c hc => ?_⟩
  · have e : (cutS z lo hi).length = (cutS z lo hi).cps.toList.length := (Array.length_toList).symm
    rw [e, hl, List.length_take, List.length_drop]
    have h1 : z.cps.toList.length = z.length := Array.length_toList
    have := h.1
    omega
  · rw [hl] at hc
    exact h.2 c (List.mem_of_mem_drop (List.mem_of_mem_take hc))
/-- the signs joined -/
def signs1 (cs : List Nat) : List Str := cs.map fun c => ⟨#[c]⟩
theorem glue_fold : ∀ (cs : List Nat) (acc : Array Nat), ((signs1 cs).foldl (fun acc p => acc ++ (Str.empty).cps ++ p.cps) acc).toList = acc.toList ++ cs
  | [], acc => (List.append_nil _).symm
  | c :: cs, acc => by
    show ((signs1 cs).foldl (fun acc p => acc ++ (Str.empty).cps ++ p.cps) (acc ++ (Str.empty).cps ++ #[c])).toList = _
    rw [glue_fold cs]
    simp [Str.empty]
theorem join_signs (cs : List Nat) : (Txt.join Str.empty (signs1 cs)).cps.toList = cs := by
  cases cs with
  | nil => rfl
  | cons c cs =>
    show ((signs1 cs).foldl (fun acc p => acc ++ (Str.empty).cps ++ p.cps) #[c]).toList = _
    rw [glue_fold]
    rfl
theorem join_ok {cs : List Nat} {n : Nat} (hl : cs.length ≤ n) (h : ∀ c ∈ cs, c < 16 ^ 8) : Ok8 n (Txt.join Str.empty (signs1 cs)) := by
  have e := join_signs cs
  refine ⟨?_, fun c hc => h c (by rw [e] at hc; exact hc)⟩
  have e2 : (Txt.join Str.empty (signs1 cs)).length = (Txt.join Str.empty (signs1 cs)).cps.toList.length := (Array.length_toList).symm
  rw [e2, e]
  exact hl
end DL
namespace DL
open PySem PySem.Spec L2
section
variable {X : Cx} {Tb : List Addr} {δ : Dl} {a b : Expr} {pos : Pos}
theorem wpT_dnin {P : Bool → Prop} (hu : X.A.units + 1 < cLine) (h : wpE X Tb a δ fun d1 => wpE X Tb b δ fun d2 => dinR d1 d2 fun d => ∃ k, d = .bool k ∧ P (!k)) (hm : behindInMarks .NotIn b = false := by rfl) : wpT X Tb (.Compare a [.NotIn] [b] pos) δ P := fun B O0 M Lk σ τ H I Q q =>
  sem_t (pt_cmp (pc_dnotin hu pe_sem pe_sem) hm) (h B O0 M Lk σ τ H I _ fun x d1 H1 I1 h1 => h1 B O0 M Lk σ _ H1 I1 _ fun y d2 H2 I2 h2 => by
    obtain ⟨O, J⟩ := I2
    obtain ⟨J0, rx, ry⟩ := J.pop2
    have h2 : dinR d1 d2 fun d => ∃ k, d = .bool k ∧ P (!k) := h2
    unfold dinR at h2
    split at h2
    · obtain ⟨p, r, rfl, hg, he⟩ := dget_of rx ry h2.1
      refine ⟨p, r, rfl, hg, ?_⟩
      rw [he]
      obtain ⟨k, e, h3⟩ := h2.2
      cases e
      exact ⟨_, rfl, q _ H2 ⟨O, J0⟩ h3⟩
    · exact h2.elim)
end
section
variable {X : Cx} {Tb : List Addr} {δ : Dl} {elt iter : Expr} {pos : Pos}
theorem wpE_lcG {x : Str} {px : Pos} {ifs : List Expr} {scope : Scope} {P : D → Prop} {c : Option Expr} (j : Nat) (hj : δ[j]? = some none)
    (h : wpI X Tb (.Name x px) iter δ (LcG X Tb scope elt δ j c P))
    (hc : X.calm = true) (hN : X.N.Nodup) (ok : BlkOk X.N X.env.scope scope [(x, j)]) (hifs : ifs = c.toList) (hi : X.N[j]? = some x := by rfl) (hloc : ∀ C cl, Loc (compEnvC scope cl C X.env).scope x := by intro _ _; first | exact Or.inl rfl | exact Or.inr rfl)
    (hlo : ∀ C cl, (compEnvC scope cl C X.env).scope.names.lookup x = some .local := by intro _ _; rfl)
    (hs : ∀ x, foldedSetIterable iter X.env x = pure x := by intro _; rfl) : wpE X Tb (.ListComp elt [⟨.Name x px, iter, ifs, 0⟩] scope pos) δ P := wpE_lc j hj h hc hN ok hifs hi hloc hlo hs
end
/-- a text of at most n signs, all of them signs of Unicode -/
def VOk (n : Nat) (x : Str) : Prop := x.length ≤ n ∧ ∀ c ∈ x.cps.toList, c < 1114112
theorem VOk.ok8 {n : Nat} {x : Str} (h : VOk n x) : Ok8 n x := ⟨h.1, fun c hc => Nat.lt_trans (h.2 c hc) (by decide)⟩
theorem VOk.mono {n m : Nat} {x : Str} (h : VOk n x) (k : n ≤ m) : VOk m x := ⟨Nat.le_trans h.1 k, h.2⟩
theorem VOk.app {n m : Nat} {x y : Str} (hx : VOk n x) (hy : VOk m y) : VOk (n + m) (x ++ y) := by
  refine ⟨by rw [strLen_append]; have := hx.1; have := hy.1; omega, fun c hc => ?_⟩
  have e : (x ++ y).cps.toList = x.cps.toList ++ y.cps.toList := by
    show (x.cps ++ y.cps).toList = _
    rw [Array.toList_append]
  rw [e] at hc
  exact (List.mem_append.mp hc).elim (hx.2 c) (hy.2 c)
theorem vok_one {c : Nat} (h : c < 1114112) : VOk 1 ⟨#[c]⟩ := ⟨Nat.le_refl 1, fun d hd => by
  have : d = c := by simpa using hd
  rw [this]
  exact h⟩
theorem vok_text {n : Nat} {x : Str} (h : x.length ≤ n) (h2 : x.cps.toList.all (fun c => decide (c < 1114112)) = true) : VOk n x := ⟨h, fun c hc => of_decide_eq_true (List.all_eq_true.mp h2 c hc)⟩
theorem vok_cut {n : Nat} {z : Str} {lo hi : Option Int} (h : VOk n z) : VOk n (cutS z lo hi) := by
  refine ⟨(ok8_cut h.ok8).1, fun c hc => ?_⟩
  have hl : (cutS z lo hi).cps.toList = List.take (HT.sIx z.length z.length hi - HT.sIx z.length 0 lo) (List.drop (HT.sIx z.length 0 lo) z.cps.toList) := by
    unfold cutS
    rfl
  rw [hl] at hc
  exact h.2 c (List.mem_of_mem_drop (List.mem_of_mem_take hc))
theorem vok_join {cs : List Nat} {n : Nat} (hl : cs.length ≤ n) (h : ∀ c ∈ cs, c < 1114112) : VOk n (Txt.join Str.empty (signs1 cs)) := by
  have e := join_signs cs
  exact ⟨(join_ok hl fun c hc => Nat.lt_trans (h c hc) (by decide)).1, fun c hc => h c (by rw [e] at hc; exact hc)⟩
end DL

set_option Elab.async false
set_option linter.all false
set_option maxRecDepth 100000
set_option maxHeartbeats 2000000
/-! DL23: == with a text, != with [], isinstance of two classes, is not True, tuples joined that may be empty. -/
namespace DL
open PySem PySem.Spec L2 PySem.SeqAt
open AutoSeq1 (wpAny_loadPart')
open MeetsSeq
theorem str_eq_declines_dict (b : Str) (u : Tok) (l : Addr) (dd : Option Addr) (es : Array DictEntry) (ep : Nat) (sl : Array (Option Value)) :
    Meets (Builtin.«str.__eq__» ⟨[.str b u, .ref l], []⟩) (fun _ R s => s.heap.get? l = some { cls := .type "dict", dict := dd, data := .dict es ep, slots := sl } ∧ R (.ok (.ret .notImplemented)) s) :=
  .of_wp fun prog w A R s h => by obtain ⟨hp, g, d, tk, os⟩ := s; obtain ⟨hl, h⟩ := h; wp_walk using wpAny_loadPart' hl, wpAny_load hl; exact ⟨_, rfl, h⟩
theorem rc_dict_str {A : Around} {s : Shared} {a : Addr} {o : Obj} {es : Array DictEntry} {ep : Nat} (b : Str) (u : Tok) (ho : s.heap.get? a = some o) (hc : o.cls = .type "dict") (hd : o.data = .dict es ep) (hu : A.units < cLine) : RcAt A s (.ref a) (.str b u) false := fun prog w E Q h => by
  have da : s.TypeIs (.ref a) "dict" := ⟨o, ho, hc⟩
  obtain ⟨cls, dd, dat, sl⟩ := o
  simp only at hc hd
  subst hc hd
  refine rc_eq_decline_or (k := false) da (typeIs_str s b u) (by decide) F.sub_str_dict F.slot_dict_eq F.slot_str_eq_refl (fun Q' hq => ?_)
    (fun _ hq => call_meets F.slot_str_eq_refl (typeIs_str s b u) F.entry_str_eq (F.args_str_eq_2 _ _) (str_eq_declines_dict b u a dd es ep sl) ⟨ho, hq⟩)
    (fun _ hq => wpAny_of_eq (rfl : isSame (.ref a) (.str b u) = pure false) hq) (.inr hu) h
  refine wpAny_call_entry F.slot_dict_eq da F.entry_dict_eq ?_ (F.args_dict_eq_2 _ _)
  show wpAny _ _ (Builtin.Dict.dictSlotArgs "__eq__" ⟨[.ref a, .str b u], []⟩ >>= _) _ _ s
  refine wpAny_bind ?_
  unfold Builtin.Dict.dictSlotArgs
  refine wpAny_bind (wpAny_notOrdered_dict da ?_)
  show wpAny _ _ (pure (Value.ref a, Value.str b u)) _ _ s
  refine wpAny_pure ?_
  refine wpAny_bind (wpAny_isInstance (T := "str") (typeIs_str s b u) F.sub_str_dict ?_)
  rw [if_pos (by decide : (!false) = true)]
  refine wpAny_bind (wpAny_rule ?_)
  exact wpAny_pure ⟨_, rfl, hq⟩
section
variable {X : Cx} {Tb : List Addr} {δ : Dl} {a b e : Expr} {pos p py py2 tpos : Pos} {P : D → Prop}
def rEqS (K : PySem.W.Frag) : R2 := fun x y H Q => ∃ z, y = .str z ∧ ((scal x y = true ∧ Q (.bl (decide (x = y))) H) ∨ (∃ a xs, x = .ref a ∧ SqL K H a xs ∧ Q (.bl false) H) ∨ (∃ a xs, x = .ref a ∧ SqT K H a xs ∧ Q (.bl false) H) ∨ (∃ a kvs, x = .ref a ∧ Rd H a (.dK kvs) ∧ Q (.bl false) H))
theorem op_eqS (hu : X.A.units + 64 < cLine) : OpR X (compareOp .Eq) (rEqS X.K) := by
  intro pins s σ H x y v u Q I rx ry h
  obtain ⟨z, rfl, h⟩ := h
  rcases h with ⟨h1, h2⟩ | ⟨a, xs, rfl, hs, q⟩ | ⟨a, xs, rfl, hs, q⟩ | ⟨a, kvs, rfl, hs, q⟩
  · exact op_eq _ _ _ _ _ _ _ _ _ I rx ry ⟨h1, h2⟩
  · cases rx
    obtain ⟨t, rfl⟩ := ry
    obtain ⟨its, rv, ⟨o, n, ho, hc, _, hd⟩, _⟩ := I.list hs
    exact RcAt.list_str z t ⟨_, ho, hc, _, hd⟩ (by omega) _ _ _ _ ⟨.bl false, H, I, rfl, q⟩
  · cases rx
    obtain ⟨t, rfl⟩ := ry
    obtain ⟨its, rv, ⟨o, ho, hc, n, hd⟩, _⟩ := I.tuple hs
    exact RcAt.tuple_str z t ⟨_, ho, hc, _, hd⟩ (by omega) _ _ _ _ ⟨.bl false, H, I, rfl, q⟩
  · cases rx
    obtain ⟨t, rfl⟩ := ry
    obtain ⟨_, _, vs, _, o, es, ep, ho, hx, hd, _⟩ := dk_rd I.hok hs
    exact rc_dict_str z t ho hx.1 hd (by omega) _ _ _ _ ⟨.bl false, H, I, rfl, q⟩
def strIs (z : Str) : D → Bool
  | .str y => decide (y = z)
  | _ => false
def eqSR : D → D → (D → Prop) → Prop
  | d, .str z, P => P (.bool (strIs z d))
  | _, _, _ => False
theorem ok_eqS : Ok2 X Tb (rEqS X.K) eqSR := by
  intro B O0 M Lk O δ σ τ H x y d1 d2 P I rx ry h Q q
  unfold eqSR at h
  split at h
  · rename_i z
    rw [ry.str']
    refine ⟨z, rfl, ?_⟩
    have fin : ∀ k, P (.bool k) → Q (.bl k) H := fun k hk => q _ _ H ⟨O, I.push (.bl k)⟩ hk
    cases rx with
    | non => exact .inl ⟨rfl, fin _ h⟩
    | bl b => exact .inl ⟨rfl, fin _ h⟩
    | int i => exact .inl ⟨rfl, fin _ h⟩
    | str w =>
      refine .inl ⟨rfl, ?_⟩
      have e : decide (V.str w = V.str z) = decide (w = z) := decide_eq_decide.mpr ⟨fun h => V.str.inj h, fun h => by rw [h]⟩
      rw [e]
      exact fin _ h
    | lst ha _ => exact .inr (.inl ⟨_, _, rfl, SqL.of (vis_some ha).2, fin _ h⟩)
    | tup ha _ => exact .inr (.inr (.inl ⟨_, _, rfl, SqT.of (vis_some ha).2, fin _ h⟩))
    | dic ha _ _ => exact .inr (.inr (.inr ⟨_, _, rfl, ha.elim (fun e => .inl (vis_some e).2) fun ⟨o, e⟩ => .inr ⟨o, (vis_some e).2⟩, fin _ h⟩))
  · exact h.elim
/-- xs != ys, no dict within -/
def rNeP (X : Cx) : R2 := fun x y H Q => ∃ d e, Dp X.K H x d ∧ Dp X.K H y e ∧ d.plain = true ∧ e.plain = true ∧ X.A.units + min d.depth e.depth < cLine ∧ Q (.bl (!PyData.eqv d e)) H
theorem op_neP : OpR X (compareOp .NotEq) (rNeP X) := by
  intro pins s σ H x y v u Q I rx ry h
  obtain ⟨d, e, hd, he, sd, se, hu, q⟩ := h
  obtain ⟨as, r1⟩ := Dp.reads I d x v hd rx
  obtain ⟨bs, r2⟩ := Dp.reads I e y u he ry
  exact ne_plain r1 r2 sd se hu ⟨.bl _, H, I, rfl, q⟩
def neNilR : D → D → (D → Prop) → Prop
  | .list ds, .list [], P => (ndA ds = true ∧ PyData.plainAll ds = true) ∧ P (.bool (!ds.isEmpty))
  | _, _, _ => False
theorem ok_neNil (hu : X.A.units + 64 < cLine) : Ok2 X Tb (rNeP X) neNilR := by
  intro B O0 M Lk O δ σ τ H x y d1 d2 P I rx ry h Q q
  unfold neNilR at h
  split at h
  · rename_i ds
    obtain ⟨⟨h1, h2⟩, hP⟩ := h
    obtain ⟨a, xs, rfl, ha, ra⟩ := rx.list'
    obtain ⟨b, ys, rfl, hb, rb⟩ := ry.list'
    have e0 : PyData.eqv (.list ds) (.list []) = ds.isEmpty := by cases ds <;> simp [PyData.eqv, PyData.eqvAll]
    have hd1 : min (PyData.depth (.list ds)) (PyData.depth (.list [])) ≤ 1 := by
      have : PyData.depth (.list []) ≤ 1 := by simp [PyData.depth, PyData.depthAll]
      omega
    refine ⟨.list ds, .list [], .lst (SqL.of (vis_some ha).2) (ra.dp h1), .lst (SqL.of (vis_some hb).2) (rb.dp rfl), by simp only [PyData.plain]; exact h2, by simp [PyData.plain, PyData.plainAll], by omega, ?_⟩
    rw [e0]
    exact q _ _ H ⟨O, I.push (.bl _)⟩ hP
  · exact h.elim
def isBR (f : Bool → Bool) : D → D → (D → Prop) → Prop
  | .bool a, .bool b, P => P (.bool (f (decide (a = b))))
  | _, _, _ => False
theorem ok_notB : Ok2 X Tb rNotB (isBR fun k => !k) := by
  intro B O0 M Lk O δ σ τ H x y d1 d2 P I rx ry h Q q
  unfold isBR at h
  split at h
  · cases rx
    cases ry
    exact ⟨_, _, rfl, rfl, q _ _ H ⟨O, I.push (.bl _)⟩ h⟩
  · exact h.elim
def catR : D → D → (D → Prop) → Prop
  | .tuple xs, .tuple ys, P => xs.length + ys.length ≤ sizeLine ∧ P (.tuple (xs ++ ys))
  | _, _, _ => False
theorem ok_catA : Ok2 X Tb (rCatA X.K) catR := by
  intro B O0 M Lk O δ σ τ H x y d1 d2 P I rx ry h Q q
  unfold catR at h
  split at h
  · rename_i xs ys
    obtain ⟨hl, hP⟩ := h
    obtain ⟨a, vs, rfl, ha, ra⟩ := id rx.tuple'
    obtain ⟨b, us, rfl, hb, rb⟩ := id ry.tuple'
    refine ⟨a, b, vs, us, rfl, rfl, SqT.of (vis_some ha).2, SqT.of (vis_some hb).2, by rw [ra.length, rb.length]; exact hl, fun e => ?_, fun _ e => ?_, fun _ _ p hp => ?_⟩
    · subst e
      cases ra
      exact q _ _ H ⟨O, I.push ry⟩ hP
    · subst e
      cases rb
      rw [List.append_nil] at hP
      exact q _ _ H ⟨O, I.push rx⟩ hP
    · exact q _ _ _ ⟨O, I.newTup (ra.append rb) hp⟩ hP
  · exact h.elim
/-- isinstance(e, (T, U)) -/
theorem wpE_isi2 {x y : Str} {T U : String} {kk : Nat} (hm : X.mg "isinstance" = none) (hmT : X.mg x = none) (hbT : bootBuiltins x = some (.type T)) (hmU : X.mg y = none) (hbU : bootBuiltins y = some (.type U)) (h : wpE X Tb e δ fun d => ∃ k j, kitB (tyD d) T = some k ∧ kitB (tyD d) U = some j ∧ P (.bool (k || j)))
    (hg : Gl X "isinstance" := by rfl) (hgT : Gl X x := by rfl) (hgU : Gl X y := by rfl) (hn : x ≠ "__name__" := by decide) (hn2 : y ≠ "__name__" := by decide) (hd : (x == ("__debug__" : Str)) = false := by decide) (hd2 : (y == ("__debug__" : Str)) = false := by decide)
    (he : starEach [e, .Tuple [.Name x py, .Name y py2] kk tpos] X.env = (false, eval e X.env) :: starEach [.Tuple [.Name x py, .Name y py2] kk tpos] X.env := by rfl) (hpl : (backTo pos (starEach [.Tuple [.Name x py, .Name y py2] kk tpos] X.env)).any (·.1) = false := by rfl) (he2 : starEach [.Tuple [.Name x py, .Name y py2] kk tpos] X.env = (false, eval (.Tuple [.Name x py, .Name y py2] kk tpos) X.env) :: starEach [] X.env := by rfl)
    (he3 : starEach [.Name x py, .Name y py2] X.env = (false, eval (.Name x py) X.env) :: starEach [.Name y py2] X.env := by rfl) (he4 : starEach [.Name y py2] X.env = (false, eval (.Name y py2) X.env) :: starEach [] X.env := by rfl) : wpE X Tb (.Call (.Name "isinstance" p) [e, .Tuple [.Name x py, .Name y py2] kk tpos] [] pos) δ P := fun B O0 M Lk σ τ H I Q q =>
  sem_e (pe_callB call_isiT hg hm (by decide +kernel) (pa_cons pe_sem (pa_cons (pe_tup (pa_cons (pe_bltn (v := .ty T) hgT hmT hbT rfl hn hd) (pa_cons (pe_bltn (v := .ty U) hgU hmU hbU rfl hn2 hd2) pa_nil he4) he3)) pa_nil he2) he) (by decide) (by decide) he hpl) (h B O0 M Lk σ τ H I _ fun v d H' J h3 => by
    obtain ⟨k, j, hk, hj, h3⟩ := h3
    obtain ⟨O', J'⟩ := J
    refine ⟨by show 2 ≤ sizeLine; decide, fun tp htp => ?_⟩
    obtain ⟨J2, _⟩ := J'.alloc (o := .tup [.ty T, .ty U]) htp
    obtain ⟨J1, rv⟩ := J2.pop1
    refine ⟨v, tp, [.ty T, .ty U], .type (tyD d), [.type T, .type U], k || j, rfl, upd_same, .cons (.ty T) (.cons (.ty U) .nil), ty_of rv, ?_, q _ _ _ ⟨O', J1.push (.bl _)⟩ h3⟩
    unfold PySem.W.kitAny
    rw [kit_ty hk]
    cases k with
    | true => rfl
    | false =>
      show PySem.W.kitAny _ _ _ = _
      unfold PySem.W.kitAny
      rw [kit_ty hj]
      cases j <;> rfl)
end
end DL

set_option Elab.async false
set_option linter.all false
set_option maxRecDepth 100000
set_option maxHeartbeats 2000000
/-! DL24: three names at once, two new lists at once, sorted(dict), a list turned round, a list of the frame's own that is only read. -/
namespace DL
open PySem PySem.Spec L2 PyProof.Rows
section
variable {X : Cx} {Tb : List Addr} {δ : Dl} {a b c e : Expr} {es : List Expr} {pos p : Pos} {P : D → Prop} {R : Rs}
/-! names of any place, stored from the right -/
theorem ps_parL {i j : Nat} {x y : Str} {ta : TA} {px py pt : Pos} {kt k2 pt2} (hc : X.calm = true) (hN : X.N.Nodup) (hi : X.N[i]? = some x) (hj : X.N[j]? = some y) (hij : i ≠ j)
    (lx : Loc X.env.scope x) (fx : X.fn x = true ∨ X.env.scope.names.lookup x = some .local) (ly : Loc X.env.scope y) (fy : X.fn y = true ∨ X.env.scope.names.lookup y = some .local) (ha : PA X [a, b] ta)
    (hw : swappedStores [.Tuple [.Name x px, .Name y py] kt pt] (.Tuple [a, b] k2 pt2) X.env = pure (some [x, y])) (hs : swapsWithSole [.Tuple [.Name x px, .Name y py] kt pt] (.Tuple [a, b] k2 pt2) pos.line X.env = pure false) :
    PS X (.Assign [.Tuple [.Name x px, .Name y py] kt pt] (.Tuple [a, b] k2 pt2) pos) (tPar i j ta) := by
  refine ⟨fun pins s σ H D I h => ?_⟩
  rw [exec_Assign_arm]
  refine wpAny_bind (wpAny_standAt ?_)
  rw [hs]
  refine wpAny_bind (wpAny_pure ?_)
  rw [if_neg (by decide)]
  refine wpAny_bind (Tuple_ (thn (ha.run _ pins s σ H _ I h) fun ws t1 ⟨vs, G1, J1, rr, qq⟩ => ?_))
  obtain ⟨v, w, ev, qq⟩ := qq
  subst ev
  obtain ⟨n1, n2, rfl, rv, rw'⟩ : ∃ n1 n2, ws = [n1, n2] ∧ RelV v n1 ∧ RelV w n2 := by
    cases rr with | cons p q => cases q with | cons p' q' => cases q' with | nil => exact ⟨_, _, rfl, p, p'⟩
  refine wpAny_newObj_type ?_ (by show 2 ≤ sizeLine; decide)
  have J2 : Inv X pins σ G1 { t1 with heap := t1.heap.push { cls := .type "tuple", data := .seq [n1, n2].toArray } } := J1.kept (t' := t1.toks) fun d o ed => Heap.get?_push_of_some _ ed
  rw [hw]
  refine wpAny_bind (wpAny_pure ?_)
  show wpAny (model X.prog X.w) X.A (do rule "assign.swapped-stores"; let its ← unpackItems (.ref t1.heap.objs.size) 2 none; assignInOrder [fun u => bindName X.env y u, fun u => bindName X.env x u] its.reverse; pure Flow.next) _ _ _
  refine wpAny_bind (wpAny_rule (wpAny_bind (unpackItems_tuple (items := #[n1, n2]) (J1.ok.hd hc) (IsTup.new t1.heap _) fun g hg => ?_)))
  have J3 := J2.kept (h' := g) (t' := t1.toks) fun d o ed => hg d o (Nat.ne_of_lt (Heap.lt_size ed)) ed
  show wpAny _ _ (assignInOrder [fun u => bindName X.env y u, fun u => bindName X.env x u] [n2, n1] >>= fun _ => pure Flow.next) _ _ _
  refine wpAny_bind (assignInOrder_cons (wpAny_bindName (store_ok J3 hN hj ly rw' (fun t2 J4 => ?_) fy)))
  refine assignInOrder_cons (wpAny_bindName (store_ok J4 hN hi lx rv (fun t3 J5 => assignInOrder_nil (wpAny_pure ?_)) fx))
  rw [List.set_comm _ _ (Ne.symm hij)] at J5
  exact ⟨_, G1, J5, qq⟩
theorem ps_parL3 {i j l : Nat} {x y z : Str} {ta : TA} {px py pz pt : Pos} {kt k2 pt2} (hc : X.calm = true) (hN : X.N.Nodup) (hi : X.N[i]? = some x) (hj : X.N[j]? = some y) (hl : X.N[l]? = some z) (hij : i ≠ j) (hil : i ≠ l) (hjl : j ≠ l)
    (lx : Loc X.env.scope x) (fx : X.fn x = true ∨ X.env.scope.names.lookup x = some .local) (ly : Loc X.env.scope y) (fy : X.fn y = true ∨ X.env.scope.names.lookup y = some .local) (lz : Loc X.env.scope z) (fz : X.fn z = true ∨ X.env.scope.names.lookup z = some .local) (ha : PA X [a, b, c] ta)
    (hw : swappedStores [.Tuple [.Name x px, .Name y py, .Name z pz] kt pt] (.Tuple [a, b, c] k2 pt2) X.env = pure (some [x, y, z])) (hs : swapsWithSole [.Tuple [.Name x px, .Name y py, .Name z pz] kt pt] (.Tuple [a, b, c] k2 pt2) pos.line X.env = pure false) :
    PS X (.Assign [.Tuple [.Name x px, .Name y py, .Name z pz] kt pt] (.Tuple [a, b, c] k2 pt2) pos) (tPar3 i j l ta) := by
  refine ⟨fun pins s σ H D I h => ?_⟩
  rw [exec_Assign_arm]
  refine wpAny_bind (wpAny_standAt ?_)
  rw [hs]
  refine wpAny_bind (wpAny_pure ?_)
  rw [if_neg (by decide)]
  refine wpAny_bind (Tuple_ (thn (ha.run _ pins s σ H _ I h) fun ws t1 ⟨vs, G1, J1, rr, qq⟩ => ?_))
  obtain ⟨v1, v2, v3, ev, qq⟩ := qq
  subst ev
  obtain ⟨n1, n2, n3, rfl, k1, k2', k3⟩ : ∃ n1 n2 n3, ws = [n1, n2, n3] ∧ RelV v1 n1 ∧ RelV v2 n2 ∧ RelV v3 n3 := by
    cases rr with | cons p q => cases q with | cons p' q' => cases q' with | cons p'' q'' => cases q'' with | nil => exact ⟨_, _, _, rfl, p, p', p''⟩
  refine wpAny_newObj_type ?_ (by show 3 ≤ sizeLine; decide)
  have J2 : Inv X pins σ G1 { t1 with heap := t1.heap.push { cls := .type "tuple", data := .seq [n1, n2, n3].toArray } } := J1.kept (t' := t1.toks) fun d o ed => Heap.get?_push_of_some _ ed
  rw [hw]
  refine wpAny_bind (wpAny_pure ?_)
  show wpAny (model X.prog X.w) X.A (do rule "assign.swapped-stores"; let its ← unpackItems (.ref t1.heap.objs.size) 3 none; assignInOrder [fun u => bindName X.env z u, fun u => bindName X.env y u, fun u => bindName X.env x u] its.reverse; pure Flow.next) _ _ _
  refine wpAny_bind (wpAny_rule (wpAny_bind (unpackItems_tuple (items := #[n1, n2, n3]) (J1.ok.hd hc) (IsTup.new t1.heap _) fun g hg => ?_)))
  have J3 := J2.kept (h' := g) (t' := t1.toks) fun d o ed => hg d o (Nat.ne_of_lt (Heap.lt_size ed)) ed
  show wpAny _ _ (assignInOrder [fun u => bindName X.env z u, fun u => bindName X.env y u, fun u => bindName X.env x u] [n3, n2, n1] >>= fun _ => pure Flow.next) _ _ _
  refine wpAny_bind (assignInOrder_cons (wpAny_bindName (store_ok J3 hN hl lz k3 (fun t2 J4 => ?_) fz)))
  refine assignInOrder_cons (wpAny_bindName (store_ok J4 hN hj ly k2' (fun t3 J5 => ?_) fy))
  refine assignInOrder_cons (wpAny_bindName (store_ok J5 hN hi lx k1 (fun t4 J6 => assignInOrder_nil (wpAny_pure ?_)) fx))
  rw [List.set_comm _ _ (Ne.symm hjl), List.set_comm _ _ (Ne.symm hil), List.set_comm _ _ (Ne.symm hij)] at J6
  exact ⟨_, G1, J6, qq⟩
/-- a name of the frame -/
structure Nm (X : Cx) (i : Nat) (x : Str) : Prop where
  ix : X.N[i]? = some x
  loc : Loc X.env.scope x
  fn : X.fn x = true ∨ X.env.scope.names.lookup x = some .local
theorem wpS_p2 {i j : Nat} {x y : Str} {px py pt : Pos} {kt k2 : Nat} {pt2 : Pos} (hN : X.N.Nodup) (nx : Nm X i x) (ny : Nm X j y) (hij : i ≠ j) (hc : X.calm = true) (hw : swappedStores [.Tuple [.Name x px, .Name y py] kt pt] (.Tuple [a, b] k2 pt2) X.env = pure (some [x, y]))
    (hs : swapsWithSole [.Tuple [.Name x px, .Name y py] kt pt] (.Tuple [a, b] k2 pt2) pos.line X.env = pure false) (h : wpA X Tb [a, b] δ fun ds => ∃ d e, ds = [d, e] ∧ R.nx ((δ.set i (some (.d d))).set j (some (.d e)))) : wpS X Tb (.Assign [.Tuple [.Name x px, .Name y py] kt pt] (.Tuple [a, b] k2 pt2) pos) δ R := fun B O0 M Lk σ τ H I =>
  sem_s (ps_parL hc hN nx.ix ny.ix hij nx.loc nx.fn ny.loc ny.fn pa_sem hw hs) (h B O0 M Lk σ τ H I _ fun ps H' J q => by
    obtain ⟨d, e', ed, q⟩ := q
    obtain ⟨O, J⟩ := J
    obtain ⟨J0, r⟩ := J.popA
    rw [ed] at r
    obtain ⟨v, u, ev, rv, ru⟩ := r.two'
    exact ⟨v, u, ev, _, ⟨O, (J0.set (j := i) rv).set (j := j) ru⟩, q⟩)
theorem wpS_p3 {i j l : Nat} {x y z : Str} {px py pz pt : Pos} {kt k2 : Nat} {pt2 : Pos} (hN : X.N.Nodup) (nx : Nm X i x) (ny : Nm X j y) (nz : Nm X l z) (hij : i ≠ j) (hil : i ≠ l) (hjl : j ≠ l) (hc : X.calm = true) (hw : swappedStores [.Tuple [.Name x px, .Name y py, .Name z pz] kt pt] (.Tuple [a, b, c] k2 pt2) X.env = pure (some [x, y, z]))
    (hs : swapsWithSole [.Tuple [.Name x px, .Name y py, .Name z pz] kt pt] (.Tuple [a, b, c] k2 pt2) pos.line X.env = pure false) (h : wpA X Tb [a, b, c] δ fun ds => ∃ d e f, ds = [d, e, f] ∧ R.nx (((δ.set i (some (.d d))).set j (some (.d e))).set l (some (.d f)))) : wpS X Tb (.Assign [.Tuple [.Name x px, .Name y py, .Name z pz] kt pt] (.Tuple [a, b, c] k2 pt2) pos) δ R := fun B O0 M Lk σ τ H I =>
  sem_s (ps_parL3 hc hN nx.ix ny.ix nz.ix hij hil hjl nx.loc nx.fn ny.loc ny.fn nz.loc nz.fn pa_sem hw hs) (h B O0 M Lk σ τ H I _ fun ps H' J q => by
    obtain ⟨d, e', f, ed, q⟩ := q
    obtain ⟨O, J⟩ := J
    obtain ⟨J0, r⟩ := J.popA
    rw [ed] at r
    obtain ⟨v, u, w, ev, rv, ru, rw'⟩ : ∃ v u w, ps.map (·.1) = [v, u, w] ∧ Rp (vis O H') v d ∧ Rp (vis O H') u e' ∧ Rp (vis O H') w f := by
      generalize hg : ps.map (·.1) = vs at r
      cases r with | cons h r => cases r with | cons h2 r => cases r with | cons h3 r => cases r with | nil => exact ⟨_, _, _, rfl, h, h2, h3⟩
    exact ⟨v, u, w, ev, _, ⟨O, ((J0.set (j := i) rv).set (j := j) ru).set (j := l) rw'⟩, q⟩)
/-- x, y = [], [] -/
theorem wpS_p2LL {i j : Nat} {x y : Str} {px py pt : Pos} {kt k2 : Nat} {pt2 q1 q2 : Pos} (hN : X.N.Nodup) (nx : Nm X i x) (ny : Nm X j y) (hij : i ≠ j) (hc : X.calm = true) (hw : swappedStores [.Tuple [.Name x px, .Name y py] kt pt] (.Tuple [.List [] q1, .List [] q2] k2 pt2) X.env = pure (some [x, y]))
    (hs : swapsWithSole [.Tuple [.Name x px, .Name y py] kt pt] (.Tuple [.List [] q1, .List [] q2] k2 pt2) pos.line X.env = pure false) (h : R.nx ((δ.set i (some (.own (.lst [])))).set j (some (.own (.lst []))))) : wpS X Tb (.Assign [.Tuple [.Name x px, .Name y py] kt pt] (.Tuple [.List [] q1, .List [] q2] k2 pt2) pos) δ R := fun B O0 M Lk σ τ H I => by
  refine sem_s (ps_parL hc hN nx.ix ny.ix hij nx.loc nx.fn ny.loc ny.fn (pa_cons (pe_lst pa_nil) (pa_cons (pe_lst pa_nil) pa_nil rfl) rfl) hw hs) ?_
  obtain ⟨O, I⟩ := I
  refine ⟨Nat.zero_le _, fun p hp => ⟨Nat.zero_le _, fun q hq => ⟨_, _, rfl, _, ⟨_, (I.own (j := i) hp .nil).own (j := j) hq .nil⟩, h⟩⟩⟩
theorem wpS_post {st : Stmt} {Q : Dl → Prop} (h : wpS X Tb st δ ⟨Q, R.rt, R.bk, R.ct⟩) (hQ : ∀ δ', Q δ' → R.nx δ') : wpS X Tb st δ R := fun B O0 M Lk σ τ H I => by
  refine semS_le ?_ (h B O0 M Lk σ τ H I)
  exact ⟨fun _ _ ⟨δ', J, q⟩ => ⟨δ', J, hQ δ' q⟩, fun _ _ q => q, fun _ _ q => q, fun _ _ q => q⟩
/-! ### sorted(d) -/
theorem keysK {H : Hp} : ∀ {kvs : List (Key × V)} {ds : List (D × D)}, RpK H kvs ds → ds.map (·.1) = (kvs.map (·.1)).map kD
  | _, _, .nil => rfl
  | _, _, .cons _ r => by rw [List.map_cons, List.map_cons, List.map_cons, keysK r]
theorem inr_keys : ∀ {ks : List Key} {xs : List Str}, ks.map kD = xs.map PyData.str → ks = xs.map Sum.inr
  | [], [], _ => rfl
  | [], _ :: _, h => by cases h
  | _ :: _, [], h => by cases h
  | k :: ks, x :: xs, h => by
    rw [List.map_cons, List.map_cons] at h
    obtain ⟨h1, h2⟩ := List.cons.inj h
    rw [List.map_cons, inr_keys h2, kD_inj (a := k) (b := .inr x) h1]
theorem rpStrs {H : Hp} : ∀ ys : List Str, RpA H (ys.map V.str) (ys.map PyData.str)
  | [] => .nil
  | y :: ys => .cons (.str y) (rpStrs ys)
def sortR : List D → (D → Prop) → Prop := fun ds P => ∃ (ks : List (D × D)) (xs : List Str), ds = [.dict ks] ∧ ks.map (·.1) = xs.map .str ∧ xs.length < 64 ∧ ∀ ys : List Str, ys.Perm xs → P (.list (ys.map .str))
theorem ok_sortD : OkC X Tb (fun xs H Q => ∃ (a : Addr) (kvs : List (Key × V)) (ks : List Str), xs = [.ref a] ∧ Rd H a (.dK kvs) ∧ kvs.map (·.1) = ks.map Sum.inr ∧ ks.length < 64 ∧ ∀ (ys : List Str) (p : Addr), ys.Perm ks → PyProof.Rows.sortedS ys = true → H p = none → Q (.ref p) (upd H p (.lst (ys.map V.str)))) sortR := by
  intro B O0 M Lk O δ σ τ H vs ds P I r h Q q
  obtain ⟨ks, xs, rfl, hk, hl, h⟩ := h
  obtain ⟨v, rfl, rv⟩ := r.one'
  obtain ⟨a, kvs, rfl, hd, _, rk⟩ := rv.dict'
  refine ⟨a, kvs, xs, rfl, (vis_all).dic a kvs hd, inr_keys ?_, hl, fun ys p hp _ hn => q _ _ _ ⟨O, I.newLst (rpStrs ys) hn⟩ (h ys hp)⟩
  rw [← keysK rk, hk]
/-! ### xs[::-1] -/
theorem RpA.rev {H : Hp} : ∀ {vs : List V} {ds : List D}, RpA H vs ds → RpA H vs.reverse ds.reverse
  | _, _, .nil => .nil
  | _, _, .cons h r => by
    rw [List.reverse_cons, List.reverse_cons]
    exact (RpA.rev r).append (RpA.one h)
theorem wpE_rev {k : Nat} {p1 p2 p3 : Pos} (h : wpE X Tb a δ fun d => ∃ ds, d = .list ds ∧ P (.list ds.reverse)) : wpE X Tb (.Subscript a (.Slice none none (some (.UnaryOp .USub (.Constant (.int 1) k p1) p2)) p3) pos) δ P := fun B O0 M Lk σ τ H I Q q =>
  sem_e (pe_revL pe_sem) (h B O0 M Lk σ τ H I _ fun v d H' J h1 => by
    obtain ⟨ds, rfl, h1⟩ := h1
    obtain ⟨O, J⟩ := J
    obtain ⟨J0, r⟩ := J.pop1
    obtain ⟨p, xs, rfl, hp, rp⟩ := r.list'
    exact ⟨p, xs, rfl, SqL.of (vis_some hp).2, fun t ht => q _ _ _ ⟨O, J0.newLst rp.rev ht⟩ h1⟩)
/-! ### a list of the frame's own, lent for one expression -/
def blank (δ : Dl) : Dl := δ.map fun s => match s with
  | some (.own _) => none
  | s => s
def scalD : D → Bool
  | .none => true
  | .bool _ => true
  | .int _ => true
  | .str _ => true
  | _ => false
theorem blank_get {δ : Dl} {i : Nat} {sl : Sl} (h : (blank δ)[i]? = some (some sl)) : δ[i]? = some (some sl) ∧ ∀ o, sl ≠ .own o := by
  unfold blank at h
  rw [List.getElem?_map] at h
  cases e : δ[i]? with
  | none => rw [e] at h; cases h
  | some s =>
    rw [e] at h
    cases s with
    | none => cases h
    | some s =>
      cases s with
      | d d => cases h; exact ⟨rfl, fun _ z => nomatch z⟩
      | own o => cases h
      | scr ns => cases h; exact ⟨rfl, fun _ z => nomatch z⟩
theorem AtO.lend {G : Glo} {B : Hp} {O0 M O : List Addr} {Lk : Lks} {σ : L2.St} {τ : List (V × D)} {H : Hp} {ds : List D} {j : Nat} (I : AtO G B O0 M Lk O δ σ τ H) (hj : δ[j]? = some (some (.own (.lst ds)))) : ∃ O', At G H O' [] ([], []) ((blank δ).set j (some (.d (.list ds)))) σ τ H := by
  obtain ⟨O', I'⟩ := I.thaw hj
  have hlt : j < δ.length := (List.getElem?_eq_some_iff.mp hj).1
  have hb : (blank δ).length = δ.length := by unfold blank; rw [List.length_map]
  have key : ∀ (i : Nat) (sl : Sl), ((blank δ).set j (some (.d (.list ds))))[i]? = some (some sl) → (δ.set j (some (.d (.list ds))))[i]? = some (some sl) ∧ ∀ o, sl ≠ .own o := fun i sl e => by
    by_cases h : j = i
    · subst h
      rw [List.getElem?_set_self (by rw [hb]; exact hlt)] at e
      rw [List.getElem?_set_self hlt]
      exact ⟨e, fun o z => by rw [z] at e; cases e⟩
    · rw [List.getElem?_set_ne h] at e ⊢
      exact blank_get e
  refine ⟨O', O', fun _ h => h, (fun _ z => nomatch z), I'.live, fun p hp => .inl hp, I'.live, Gr.refl _ _ _, (fun _ z => nomatch z), (fun _ z => nomatch z), (fun _ z => nomatch z), I'.tabs, I'.tmp, ?_, fun i sl e => ?_, fun i k o o' p e1 e2 e3 e4 => ?_, (fun _ z => nomatch z), fun a od u e => .inl (by rw [e]; exact fun z => nomatch z)⟩
  · rw [List.length_set, hb]
    exact I.len
  · obtain ⟨e1, e2⟩ := key i sl e
    obtain ⟨v, h1, h2⟩ := I'.slots i sl e1
    refine ⟨v, h1, ?_⟩
    cases sl with
    | d d => exact h2
    | own o => exact absurd rfl (e2 o)
    | scr ns => exact h2
  · exact absurd rfl ((key i _ e1).2 o)
theorem scal_rp {O O' : List Addr} {H : Hp} {v : V} {d : D} (h : Rp (vis O H) v d) (s : scalD d = true) : Rp (vis O' H) v d := by
  cases h with
  | non => exact .non
  | bl b => exact .bl b
  | int i => exact .int i
  | str x => exact .str x
  | _ => cases s
theorem wpE_lend {ds : List D} (j : Nat) (hj : δ[j]? = some (some (.own (.lst ds)))) (h : wpE X Tb e ((blank δ).set j (some (.d (.list ds)))) fun d => scalD d = true ∧ P d) : wpE X Tb e δ P := fun B O0 M Lk σ τ H I Q q => by
  obtain ⟨O, I⟩ := I
  obtain ⟨O', J⟩ := I.lend hj
  refine h H O' [] ([], []) σ τ H J Q fun v d H' K hd => ?_
  obtain ⟨O2, K⟩ := K
  have g : Gr [] [] H H' := K.gr
  have nf : Nf H H' := fun a od u e => (K.nof a od u e).resolve_right (fun z => nomatch z)
  have r := K.tmp _ List.mem_cons_self
  have I2 := I.grow g (fun _ z => nomatch z) (fun _ z => nomatch z) (fun _ z => nomatch z) (fun _ z => nomatch z) nf
  exact q v d H' ⟨O, I2.push (scal_rp r hd.1)⟩ hd.2
theorem wpT_lend {ds : List D} {P : Bool → Prop} (j : Nat) (hj : δ[j]? = some (some (.own (.lst ds)))) (h : wpT X Tb e ((blank δ).set j (some (.d (.list ds)))) P) : wpT X Tb e δ P := fun B O0 M Lk σ τ H I Q q => by
  obtain ⟨O, I⟩ := I
  obtain ⟨O', J⟩ := I.lend hj
  refine h H O' [] ([], []) σ τ H J Q fun b H' K hd => ?_
  obtain ⟨O2, K⟩ := K
  have g : Gr [] [] H H' := K.gr
  have nf : Nf H H' := fun a od u e => (K.nof a od u e).resolve_right (fun z => nomatch z)
  exact q b H' ⟨O, I.grow g (fun _ z => nomatch z) (fun _ z => nomatch z) (fun _ z => nomatch z) (fun _ z => nomatch z) nf⟩ hd
end
end DL

set_option Elab.async false
set_option linter.all false
set_option maxRecDepth 100000
set_option maxHeartbeats 2000000
/-! DL25: data that == compares. -/
namespace DL
open PySem PySem.Spec L2
structure Cl (p : Nat) (d : D) : Prop where
  lay : PyData.canLay0 d = true
  dp : PyData.depth d ≤ p
  nd : nd d = true
structure ClA (p : Nat) (ds : List D) : Prop where
  lay : PyData.canLayAll0 ds = true
  dp : PyData.depthAll ds ≤ p
  nd : ndA ds = true
theorem cl_none (p : Nat) : Cl p .none := ⟨by simp [PyData.canLay0], by simp [PyData.depth], rfl⟩
theorem cl_bool (p : Nat) (b : Bool) : Cl p (.bool b) := ⟨by simp [PyData.canLay0], by simp [PyData.depth], rfl⟩
theorem cl_int (p : Nat) (i : Int) : Cl p (.int i) := ⟨by simp [PyData.canLay0], by simp [PyData.depth], rfl⟩
theorem cl_str {n : Nat} {x : Str} (p : Nat) (h : VOk n x) : Cl p (.str x) := by
  refine ⟨?_, by simp [PyData.depth], rfl⟩
  simp only [PyData.canLay0]
  unfold PyData.strOk
  rw [← Array.all_toList]
  exact List.all_eq_true.mpr fun c hc => decide_eq_true (h.2 c hc)
theorem clA_nil (p : Nat) : ClA p [] := ⟨by simp [PyData.canLayAll0], by simp [PyData.depthAll], rfl⟩
theorem clA_cons {p : Nat} {d : D} {ds : List D} (h : Cl p d) (r : ClA p ds) : ClA p (d :: ds) := by
  refine ⟨?_, ?_, ?_⟩
  · simp only [PyData.canLayAll0, h.lay, r.lay, Bool.and_true]
  · simp only [PyData.depthAll]
    have := h.dp
    have := r.dp
    omega
  · show (nd d && ndA ds) = true
    rw [h.nd, r.nd]
    rfl
theorem cl_list {p : Nat} {ds : List D} (h : ClA p ds) : Cl (p + 1) (.list ds) := ⟨by simp only [PyData.canLay0]; exact h.lay, by simp only [PyData.depth]; have := h.dp; omega, h.nd⟩
theorem cl_tuple {p : Nat} {ds : List D} (h : ClA p ds) : Cl (p + 1) (.tuple ds) := ⟨by simp only [PyData.canLay0]; exact h.lay, by simp only [PyData.depth]; have := h.dp; omega, h.nd⟩
theorem clA_map {α : Type} {f : α → D} {p : Nat} : ∀ {xs : List α}, (∀ x ∈ xs, Cl p (f x)) → ClA p (xs.map f)
  | [], _ => clA_nil p
  | x :: xs, h => clA_cons (h x List.mem_cons_self) (clA_map fun y hy => h y (List.mem_cons_of_mem _ hy))
theorem Cl.shaped {p : Nat} {d : D} (h : Cl p d) (hp : p ≤ 64) : SeqAt.shaped d = true := by
  unfold SeqAt.shaped
  rw [h.lay, Bool.true_and]
  exact decide_eq_true (Nat.le_trans h.dp hp)
theorem r_eqLL {f : Bool → Bool} {xs ys : List D} {P : D → Prop} (hx : ClA 40 xs) (hy : ClA 40 ys) (h : P (.bool (f (PyData.eqv (.list xs) (.list ys))))) : eqR f (.list xs) (.list ys) P :=
  ⟨⟨hx.nd, hy.nd, (cl_list hx).shaped (by decide), (cl_list hy).shaped (by decide)⟩, h⟩
theorem r_eqTT {f : Bool → Bool} {xs ys : List D} {P : D → Prop} (hx : ClA 40 xs) (hy : ClA 40 ys) (h : P (.bool (f (PyData.eqv (.tuple xs) (.tuple ys))))) : eqR f (.tuple xs) (.tuple ys) P :=
  ⟨⟨hx.nd, hy.nd, (cl_tuple hx).shaped (by decide), (cl_tuple hy).shaped (by decide)⟩, h⟩
theorem eqvA_nil (xs : List D) : PyData.eqv (.list xs) (.list []) = xs.isEmpty := by
  cases xs <;> simp [PyData.eqv, PyData.eqvAll]
theorem eqv_map {α : Type} [DecidableEq α] {f : α → D} (h : ∀ a b, PyData.eqv (f a) (f b) = decide (a = b)) : ∀ xs ys : List α, PyData.eqvAll (xs.map f) (ys.map f) = decide (xs = ys)
  | [], [] => by simp [PyData.eqvAll]
  | [], _ :: _ => by simp [PyData.eqvAll]
  | _ :: _, [] => by simp [PyData.eqvAll]
  | x :: xs, y :: ys => by
    simp only [List.map_cons, PyData.eqvAll, h, eqv_map h xs ys, List.cons.injEq, Bool.decide_and]
section
variable {X : Cx} {Tb : List Addr} {δ : Dl} {e : Expr} {pos p : Pos}
/-- list(xs) -/
theorem wpF_list {P : List D → Prop} (hm : X.mg "list" = none) (h : wpE X Tb e δ fun d => ∃ ds, d = .list ds ∧ P ds) (hg : Gl X "list" := by rfl) (he : starEach [e] X.env = (false, eval e X.env) :: starEach [] X.env := by rfl) (hpl : (backTo pos (starEach [] X.env)).any (·.1) = false := by rfl) : wpF X Tb (.Call (.Name "list" p) [e] [] pos) δ P := fun B O0 M Lk σ τ H I Q q =>
  sem_e (pe_callTy call_list_of hg hm PyProof.Rows.boot_list (pa_cons pe_sem pa_nil he) (by decide) (by decide) he hpl) (h B O0 M Lk σ τ H I _ fun v d H' J h1 => by
    obtain ⟨ds, rfl, h1⟩ := h1
    obtain ⟨O, J⟩ := J
    obtain ⟨J0, r⟩ := J.pop1
    obtain ⟨a, xs, rfl, ha, rx⟩ := r.list'
    exact ⟨a, xs, rfl, .inl (SqL.of (vis_some ha).2), fun l hl => q O xs ds l H' J0 hl rx h1⟩)
end
end DL

set_option Elab.async false
set_option linter.all false
set_option maxRecDepth 100000
set_option maxHeartbeats 1000000
/-! SD0: sets of ints as objects; a set less another one. -/
namespace SD
open PySem PySem.Spec PyProof.Rows L2
/-! ### lists of ints -/
theorem perm_sub : ∀ {L ks : List Int}, L.Nodup → (∀ k ∈ L, k ∈ ks) → ks.length ≤ L.length → ks.Perm L
  | [], ks, _, _, hl => by
    have : ks = [] := List.eq_nil_of_length_eq_zero (Nat.le_zero.mp hl)
    rw [this]
  | a :: L, ks, hn, hs, hl => by
    obtain ⟨h1, h2⟩ := List.nodup_cons.mp hn
    have ha : a ∈ ks := hs a List.mem_cons_self
    have ih := perm_sub (L := L) (ks := ks.erase a) h2 (fun k hk => (List.mem_erase_of_ne fun e => h1 (by rw [← e]; exact hk)).2 (hs k (List.mem_cons_of_mem _ hk))) (by
      rw [List.length_erase_of_mem ha]
      rw [List.length_cons] at hl
      omega)
    exact (List.perm_cons_erase ha).trans (ih.cons a)
/-- the elements of a set's table, by their keys -/
inductive KeysAre : List (Int × Value) → List Int → Prop
  | nil : KeysAre [] []
  | cons {h : Int} {k : Int} {t : Tok} {es : List (Int × Value)} {ks : List Int} : h = hashInt k → KeysAre es ks → KeysAre ((h, .int k t) :: es) (k :: ks)
theorem KeysAre.length : ∀ {es : List (Int × Value)} {ks : List Int}, KeysAre es ks → es.length = ks.length
  | _, _, .nil => rfl
  | _, _, .cons _ r => by rw [List.length_cons, List.length_cons, r.length]
theorem KeysAre.mem_e : ∀ {es : List (Int × Value)} {ks : List Int} {e : Int × Value}, KeysAre es ks → e ∈ es → ∃ k t, e = (hashInt k, .int k t) ∧ k ∈ ks
  | _, _, _, .nil, h => by cases h
  | _, _, e, .cons (k := k) (t := t) hh r, h => by
    rcases List.mem_cons.mp h with h | h
    · exact ⟨k, t, by rw [h, hh], List.mem_cons_self⟩
    · obtain ⟨k', t', q1, q2⟩ := r.mem_e h
      exact ⟨k', t', q1, List.mem_cons_of_mem _ q2⟩
theorem KeysAre.mem_k : ∀ {es : List (Int × Value)} {ks : List Int} {k : Int}, KeysAre es ks → k ∈ ks → ∃ t, (hashInt k, Value.int k t) ∈ es
  | _, _, _, .nil, h => by cases h
  | _, _, k, .cons (k := k') (t := t) hh r, h => by
    rcases List.mem_cons.mp h with h | h
    · exact ⟨t, by rw [h, ← hh]; exact List.mem_cons_self⟩
    · obtain ⟨t', q⟩ := r.mem_k h
      exact ⟨t', List.mem_cons_of_mem _ q⟩
theorem KeysAre.perm : ∀ {es fs : List (Int × Value)}, fs.Perm es → ∀ {ks : List Int}, KeysAre es ks → ∃ ls, KeysAre fs ls ∧ ls.Perm ks := by
  intro es fs p
  induction p with
  | nil => intro ks h; exact ⟨ks, h, List.Perm.refl _⟩
  | cons x p ih =>
    intro ks h
    cases h with
    | cons hh r =>
      obtain ⟨ls, h1, h2⟩ := ih r
      exact ⟨_, .cons hh h1, h2.cons _⟩
  | swap x y l =>
    intro ks h
    cases h with
    | cons hh r =>
      cases r with
      | cons hh2 r => exact ⟨_, .cons hh2 (.cons hh r), List.Perm.swap _ _ _⟩
  | trans p1 p2 ih1 ih2 =>
    intro ks h
    obtain ⟨ls, h1, h2⟩ := ih2 h
    obtain ⟨ms, h3, h4⟩ := ih1 h1
    exact ⟨ms, h3, h4.trans h2⟩
theorem elems_keys {P : Program} {w : World} : ∀ {es : List (Int × Value)}, ElemsOf (intKind P w) es → ∃ ks, KeysAre es ks
  | [], _ => ⟨[], .nil⟩
  | (h, v) :: es, he => by
    obtain ⟨⟨k, h1, h2⟩, _⟩ := he.head
    obtain ⟨t, rfl⟩ := Value.isInt_shape h1
    obtain ⟨ks, r⟩ := elems_keys he.tail
    exact ⟨k :: ks, .cons h2 r⟩
theorem keys_elems {P : Program} {w : World} {es : List (Int × Value)} {ks : List Int} (h : KeysAre es ks) : ElemsOf (intKind P w) es := fun e he => by
  obtain ⟨k, t, rfl, _⟩ := h.mem_e he
  exact ⟨⟨k, by show (k == k) = true; exact beq_self_eq_true k, rfl⟩, rfl⟩
/-- a set of just these ints stands at a -/
structure SetV (h : Heap) (a : Addr) (ks : List Int) (o : Obj) (es : Array (Int × Value)) (ep : Nat) (t : SetTable) : Prop where
  ob : h.get? a = some o
  ex : o.ExactSet
  da : o.data = .set es ep t
  ke : KeysAre es.toList ks
  nd : ks.Nodup
  sz : es.size < scanBound
  ft : t.fits es.size = true
def SetP (h : Heap) (a : Addr) (L : List Int) : Prop := ∃ ks o es ep t, SetV h a ks o es ep t ∧ ks.Perm L
section
variable {P : Program} {w : World} {h h' : Heap} {a : Addr} {L : List Int}
theorem SetP.nd (x : SetP h a L) : L.Nodup := by
  obtain ⟨ks, o, es, ep, t, v, p⟩ := x
  exact p.nodup_iff.mp v.nd
theorem SetP.perm {M : List Int} (x : SetP h a L) (p : L.Perm M) : SetP h a M := by
  obtain ⟨ks, o, es, ep, t, v, q⟩ := x
  exact ⟨ks, o, es, ep, t, v, q.trans p⟩
theorem SetP.setOf (x : SetP h a L) : h.SetOf (intKind P w) a (fun k => decide (k ∈ L)) L.length := by
  obtain ⟨ks, o, es, ep, t, v, p⟩ := x
  refine ⟨o, es, ep, t, v.ob, v.ex, v.da, keys_elems v.ke, fun k => ?_, v.sz, v.ft, ?_⟩
  · rw [decide_eq_true_iff]
    constructor
    · intro hk
      obtain ⟨t', q⟩ := v.ke.mem_k (p.mem_iff.mpr hk)
      exact ⟨_, q, by show (k == k) = true; exact beq_self_eq_true k⟩
    · intro ⟨e, he, hp⟩
      obtain ⟨k', t', rfl, q⟩ := v.ke.mem_e he
      have e2 : k' = k := eq_of_beq hp
      rw [← e2]
      exact p.mem_iff.mp q
  · rw [← Array.length_toList, v.ke.length, p.length_eq]
theorem SetP.of {S : Int → Bool} {n : Nat} (x : h.SetOf (intKind P w) a S n) (hL : L.Nodup) (hn : n = L.length) (hm : ∀ k, S k = true ↔ k ∈ L) : SetP h a L := by
  obtain ⟨o, es, ep, t, ho, hx, hd, hel, hmem, hb, hf, e⟩ := x
  obtain ⟨ks, hk⟩ := elems_keys hel
  have hlen : ks.length = L.length := by rw [← hk.length, Array.length_toList, e, hn]
  have p : ks.Perm L := perm_sub hL (fun k hkL => by
    obtain ⟨e', he', hp'⟩ := (hmem k).mp ((hm k).mpr hkL)
    obtain ⟨k', t', rfl, q⟩ := hk.mem_e he'
    have e2 : k' = k := eq_of_beq hp'
    rw [← e2]
    exact q) (Nat.le_of_eq hlen)
  exact ⟨ks, o, es, ep, t, ⟨ho, hx, hd, hk, p.nodup_iff.mpr hL, hb, hf⟩, p⟩
theorem SetP.at (x : SetP h a L) (k : ∀ o, h.get? a = some o → h'.get? a = some o) : SetP h' a L := by
  obtain ⟨ks, o, es, ep, t, v, p⟩ := x
  exact ⟨ks, o, es, ep, t, ⟨k _ v.ob, v.ex, v.da, v.ke, v.nd, v.sz, v.ft⟩, p⟩
end
/-! ### loops of the machine -/
section
variable {M : Model} {A : Around} {E : Value → Shared → Prop} {s : Shared}
theorem wp_idle {α β : Type} {b : β} {f : α → β → Sem (ForInStep β)} {Q : β → Shared → Prop} : ∀ {xs : List α}, (∀ x ∈ xs, ∀ Q' : ForInStep β → Shared → Prop, Q' (.yield b) s → wpAny M A (f x b) Q' E s) → Q b s → wpAny M A (forIn xs b f) Q E s
  | [], _, h => wpAny_pure h
  | x :: xs, hx, h => by
    rw [List.forIn_cons]
    exact wpAny_bind (hx x List.mem_cons_self _ (wp_idle (fun y hy => hx y (List.mem_cons_of_mem _ hy)) h))
theorem wp_loop {α : Type} {f : α → PUnit → Sem (ForInStep PUnit)} {Q : PUnit → Shared → Prop} {I : List α → Shared → Prop} {all : List α} (hs : ∀ done x rest s, done ++ x :: rest = all → I done s → wpAny M A (f x ()) (fun r s' => r = .yield () ∧ I (done ++ [x]) s') E s) (hq : ∀ s, I all s → Q () s) :
    ∀ {xs done : List α} {s : Shared}, done ++ xs = all → I done s → wpAny M A (forIn xs () f) Q E s
  | [], done, s, e, h0 => wpAny_pure (hq s (by rw [← e, List.append_nil]; exact h0))
  | x :: xs, done, s, e, h0 => by
    rw [List.forIn_cons]
    refine wpAny_bind (wpAny_mono (hs done x xs s e h0) (fun r s' hr => ?_) fun _ _ z => z)
    obtain ⟨rfl, h1⟩ := hr
    exact wp_loop hs hq (by rw [List.append_assoc]; exact e) h1
end
section
variable {P : Program} {w : World} {A : Around} {E : Value → Shared → Prop} {s : Shared} {a : Addr} {L : List Int}
theorem wp_quiet : ∀ {sets : List Addr} {Q : Bool → Shared → Prop}, (∀ b ∈ sets, ∃ M, SetP s.heap b M) → Q true s → wpAny (model P w) A (setsQuiet sets) Q E s := by
  intro sets Q hs h
  unfold setsQuiet
  refine wpAny_bind (wp_idle (b := ((none, ()) : Option Bool × Unit)) (fun b hb Q' hq => ?_) (wpAny_pure h))
  obtain ⟨M, ks, o, es, ep, t, v, _⟩ := hs b hb
  refine wpAny_bind (wpAny_setEntries_of v.ob v.da v.ft ?_)
  refine wpAny_bind ?_
  rw [← Array.forIn_toList]
  refine wp_idle (b := ((none, ()) : Option Bool × Unit)) (fun e he Q2 hq2 => ?_) (wpAny_pure hq)
  obtain ⟨k, tk, rfl, _⟩ := v.ke.mem_e he
  exact wpAny_pure hq2
theorem wp_walk {ks : List Int} {o : Obj} {es : Array (Int × Value)} {ep : Nat} {t : SetTable} (v : SetV s.heap a ks o es ep t) {Q : Array (Int × Value) → Shared → Prop} (hp : w.params.followText "set-order" = true ∨ (t.led && t.plain) = true ∨ es.size ≤ 1)
    (h : ∀ out : Array (Int × Value), out.toList.Perm es.toList → Q out s) : wpAny (model P w) A (setWalk a) Q E s := by
  unfold setWalk
  refine wpAny_bind (wpAny_setState_of v.ob v.da v.ft ?_)
  dsimp only
  refine wpAny_bind (wpAny_byText ?_)
  cases hb : w.params.followText "set-order" with
  | true =>
    refine wp_if_pos rfl ?_
    exact wpAny_bind (wpAny_askSetting (wpAny_pure (h _ (pick_perm _ es))))
  | false =>
    refine wp_if_neg (by simp) ?_
    have hp2 : (t.led && t.plain) = true ∨ es.size ≤ 1 := hp.resolve_left (by rw [hb]; exact Bool.false_ne_true)
    have hd : (!t.plain && decide (es.size > 1)) = false := by
      rcases hp2 with e | e
      · rw [Bool.and_eq_true] at e
        rw [e.2]; rfl
      · rw [decide_eq_false (by omega : ¬ es.size > 1), Bool.and_false]
    have hl : (!t.led && decide (es.size > 1)) = false := by
      rcases hp2 with e | e
      · rw [Bool.and_eq_true] at e
        rw [e.1]; rfl
      · rw [decide_eq_false (by omega : ¬ es.size > 1), Bool.and_false]
    show wpAny _ _ (if (!t.plain && decide (es.size > 1)) = true then _ else _) _ _ _
    rw [hd]
    refine wp_if_neg (by simp) ?_
    show wpAny _ _ ((if (!t.led && decide (es.size > 1)) = true then _ else _) >>= _) _ _ _
    rw [hl]
    refine wpAny_bind (wp_if_neg (by simp) (wpAny_pure ?_))
    exact wpAny_pure (h _ (List.Perm.refl _))
/-- the elements of a set that nobody else sees, in some order; the set that is filled stays what it is -/
theorem wp_walkU {others : List Addr} {f : Option Addr} {Q : Array (Int × Value) → Shared → Prop} (x : SetP s.heap a L) (hs : ∀ b ∈ others, ∃ M, SetP s.heap b M) (hf : ∀ r, f = some r → ∃ M, SetP s.heap r M)
    (h : ∀ (out : Array (Int × Value)) (ls : List Int) (h' : Heap), KeysAre out.toList ls → ls.Perm L → (∀ b, f ≠ some b → h'.get? b = s.heap.get? b) → s.heap.objs.size ≤ h'.objs.size → (∀ r M, f = some r → SetP s.heap r M → SetP h' r M) → Q out { s with heap := h' }) : wpAny (model P w) A (setWalkUnseen a others f) Q E s := by
  obtain ⟨ks, o, es, ep, t, v, p⟩ := id x
  have fin : ∀ out : Array (Int × Value), out.toList.Perm es.toList → Q out s := fun out hp => by
    obtain ⟨ls, h1, h2⟩ := v.ke.perm hp
    exact h out ls s.heap h1 (h2.trans p) (fun _ _ => rfl) (Nat.le_refl _) fun _ _ _ z => z
  unfold setWalkUnseen
  refine wpAny_bind (wpAny_setState_of v.ob v.da v.ft ?_)
  dsimp only
  refine wpAny_bind (wpAny_byText ?_)
  by_cases hc : (w.params.followText "set-order" || t.led && t.plain || decide (es.size ≤ 1)) = true
  · refine wp_if_pos hc (wp_walk v ?_ fin)
    rw [Bool.or_eq_true, Bool.or_eq_true, decide_eq_true_iff] at hc
    rcases hc with (e | e) | e
    · exact .inl e
    · exact .inr (.inl e)
    · exact .inr (.inr e)
  · refine wp_if_neg hc ?_
    refine wpAny_bind (wp_quiet (fun b hb => ?_) ?_)
    · rcases List.mem_cons.mp hb with e | e
      · rw [e]; exact ⟨L, x⟩
      · exact hs b e
    refine wp_if_neg (by simp) ?_
    refine wpAny_bind (wpAny_rule ?_)
    cases f with
    | none => exact wpAny_pure (fin es (List.Perm.refl _))
    | some r =>
      dsimp only
      obtain ⟨M, ms, o2, ef, ep2, tf, v2, p2⟩ := hf r rfl
      refine wpAny_bind (wpAny_setState_of v2.ob v2.da v2.ft ?_)
      dsimp only
      by_cases hc2 : (tf.led && !t.led || tf.plain && !t.plain) = true
      · refine wp_if_pos hc2 (wpAny_bind (wpAny_storeSet_of v2.ob v2.da ?_ (fits_of_scanBound v2.sz)))
        refine wpAny_pure (h es ks _ v.ke p (fun b hb => ?_) (Nat.le_of_eq (Heap.size_update _ _ _).symm) fun r' M' e y => ?_)
        · exact Heap.get?_update_ne _ b r _ fun e => hb (by rw [e])
        · cases e
          have hm : ∀ k, decide (k ∈ M') = true ↔ ∃ e ∈ ef.toList, (intKind P w).is k e.2 = true := fun k => by
            obtain ⟨o4, es4, ep4, t4, g1, g2, g3, g4, g5, g6, g7, g8⟩ := y.setOf (P := P) (w := w)
            have e1 := v2.ob.symm.trans g1
            cases e1
            have e2 := v2.da.symm.trans g3
            cases e2
            exact g5 k
          have hl : ef.size = M'.length := by
            obtain ⟨ks3, o3, es3, ep3, t3, v3, p3⟩ := y
            have e1 := v2.ob.symm.trans v3.ob
            cases e1
            have e2 := v2.da.symm.trans v3.da
            cases e2
            rw [← Array.length_toList, v3.ke.length, p3.length_eq]
          exact SetP.of (SetOf_store (knd := intKind P w) (es' := ef) (t' := { mask := tf.mask, place := tf.place, dummies := tf.dummies, finger := tf.finger, led := tf.led && t.led, moves := tf.moves, plain := tf.plain && t.plain }) (S' := fun k => decide (k ∈ M')) v2.ob v2.ex v2.da (keys_elems v2.ke) hm v2.sz v2.ft).2 y.nd hl fun k => by rw [decide_eq_true_iff]
      · exact wp_if_neg hc2 (wpAny_pure (fin es (List.Perm.refl _)))
/-! ### a set less another one -/
theorem any_set {M : List Int} (x : SetP s.heap a M) {Q : Bool → Shared → Prop} (h : Q true s) : wpAny (model P w) A (Builtin.Frozenset.isAnySet (.ref a)) Q E s := by
  obtain ⟨ks, o, es, ep, t, v, p⟩ := x
  have hT : s.TypeIs (.ref a) "set" := ⟨o, v.ob, v.ex.1⟩
  unfold Builtin.Frozenset.isAnySet
  exact wpAny_bind (wpAny_isInstance hT sub_set_self (wpAny_pure h))
theorem base_set {M : List Int} (x : SetP s.heap a M) {Q : Value → Shared → Prop} (h : Q (.type "set") s) : wpAny (model P w) A (Builtin.Frozenset.baseOf a) Q E s := by
  obtain ⟨ks, o, es, ep, t, v, p⟩ := x
  have hT : s.TypeIs (.ref a) "set" := ⟨o, v.ob, v.ex.1⟩
  unfold Builtin.Frozenset.baseOf
  exact wpAny_bind (wpAny_isInstance hT sub_set_self (wpAny_pure h))
theorem size_set {M : List Int} (x : SetP s.heap a M) {Q : Nat → Shared → Prop} (h : Q M.length s) : wpAny (model P w) A (Builtin.Frozenset.sizeOf a) Q E s := by
  obtain ⟨ks, o, es, ep, t, v, p⟩ := x
  unfold Builtin.Frozenset.sizeOf
  refine wpAny_bind (wpAny_setEntries_of v.ob v.da v.ft (wpAny_pure ?_))
  rw [← Array.length_toList, v.ke.length, p.length_eq]
  exact h
theorem new_set {Q : Value → Shared → Prop} (h : ∀ led : Bool, Q (.ref s.heap.objs.size) { s with heap := s.heap.push { cls := .type "set", dict := none, data := .set #[] 0 (.fresh 0 0 led) } }) : wpAny (model P w) A (newSet (.type "set")) Q E s :=
  wpAny_newSet_of (knd := intKind P w) fun led _ => h led
theorem setP_new {led : Bool} {h : Heap} : SetV (h.push { cls := .type "set", dict := none, data := .set #[] 0 (.fresh 0 0 led) }) h.objs.size [] { cls := .type "set", dict := none, data := .set #[] 0 (.fresh 0 0 led) } #[] 0 (.fresh 0 0 led) :=
  ⟨Heap.get?_push_size _ rfl, ⟨rfl, rfl, rfl⟩, rfl, .nil, List.nodup_nil, by decide, rfl⟩
theorem epoch_set {ks : List Int} {o : Obj} {es : Array (Int × Value)} {ep : Nat} {t : SetTable} (v : SetV s.heap a ks o es ep t) {Q : Nat → Shared → Prop} (h : Q ep s) : wpAny (model P w) A (setEpoch a) Q E s := wpAny_setEpoch_of v.ob v.da v.ft h
theorem same_set {id : String} {ks : List Int} {o : Obj} {es : Array (Int × Value)} {ep : Nat} {t : SetTable} (v : SetV s.heap a ks o es ep t) {Q : Unit → Shared → Prop} (h : Q () s) : wpAny (model P w) A (Builtin.Frozenset.unchanged id a ep) Q E s := by
  unfold Builtin.Frozenset.unchanged
  refine wpAny_bind (epoch_set v ?_)
  exact wp_if_neg (by simp) (wpAny_pure h)
theorem find_set {M : List Int} (x : SetP s.heap a M) {k : Int} {tk : Tok} {Q : Option Nat → Shared → Prop} (h : ∀ r : Option Nat, r.isSome = decide (k ∈ M) → Q r s) : wpAny (model P w) A (setFind a (.int k tk) (hashInt k)) Q E s :=
  wpAny_setFind_of (knd := intKind P w) (k := k) (by show (k == k) = true; exact beq_self_eq_true k) rfl x.setOf h
/-- one element more -/
theorem add_set {M : List Int} (x : SetP s.heap a M) {k : Int} {tk : Tok} (hk : k ∉ M) (hz : M.length + 1 < scanBound) {Q : Bool → Shared → Prop} (h : ∀ h', Heap.SameBut a s.heap h' → SetP h' a (M ++ [k]) → Q true { s with heap := h' }) : wpAny (model P w) A (setAddHashed a (.int k tk) (hashInt k)) Q E s := by
  refine wpAny_setAddHashed_of (knd := intKind P w) (k := k) (by show (k == k) = true; exact beq_self_eq_true k) rfl x.setOf hz fun h' hb hS => ?_
  have e : decide (k ∈ M) = false := decide_eq_false hk
  rw [e] at hS ⊢
  refine h h' hb (SetP.of hS ?_ ?_ fun j => ?_)
  · refine List.nodup_append.mpr ⟨x.nd, by simp, fun p hp q hq => ?_⟩
    rw [List.mem_singleton.mp hq]
    exact fun z => hk (by rw [← z]; exact hp)
  · rw [List.length_append]; rfl
  · rw [Bool.or_eq_true, decide_eq_true_iff, decide_eq_true_iff, List.mem_append, List.mem_singleton]
end
end SD

set_option Elab.async false
set_option linter.all false
set_option maxRecDepth 100000
set_option maxHeartbeats 1000000
/-! SD1: a set less another one. -/
namespace SD
open PySem PySem.Spec PyProof.Rows L2
theorem KeysAre.split : ∀ {es fs : List (Int × Value)} {ks : List Int}, KeysAre (es ++ fs) ks → ∃ k1 k2, ks = k1 ++ k2 ∧ KeysAre es k1 ∧ KeysAre fs k2
  | [], _, ks, h => ⟨[], ks, rfl, .nil, h⟩
  | _ :: es, fs, _, .cons hh r => by
    obtain ⟨k1, k2, rfl, h1, h2⟩ := r.split
    exact ⟨_ :: k1, k2, rfl, .cons hh h1, h2⟩
theorem KeysAre.append : ∀ {es fs : List (Int × Value)} {k1 k2 : List Int}, KeysAre es k1 → KeysAre fs k2 → KeysAre (es ++ fs) (k1 ++ k2)
  | _, _, _, _, .nil, s => s
  | _, _, _, _, .cons hh r, s => .cons hh (r.append s)
theorem KeysAre.det : ∀ {es : List (Int × Value)} {k1 k2 : List Int}, KeysAre es k1 → KeysAre es k2 → k1 = k2
  | _, _, _, .nil, .nil => rfl
  | _, _, _, .cons _ r, .cons _ q => by rw [r.det q]
theorem range_fm {α : Type} : ∀ l : List α, (List.range l.length).filterMap (fun i => l[i]?) = l
  | [] => rfl
  | x :: l => by
    rw [List.length_cons, List.range_succ_eq_map, List.filterMap_cons]
    show x :: _ = _
    rw [List.filterMap_map]
    congr 1
    exact range_fm l
section
variable {P : Program} {w : World} {A : Around} {E : Value → Shared → Prop} {s : Shared} {a b r : Addr} {L M : List Int}
theorem diff_loop {id : String} {ep : Nat} {o : Obj} {es : Array (Int × Value)} {ks : List Int} {t : SetTable} (va : SetV s.heap a ks o es ep t) (xb : SetP s.heap b M) (xr : SetP s.heap r []) (ra : r ≠ a) (rb : r ≠ b) {out : Array (Int × Value)} {ls : List Int} (hk : KeysAre out.toList ls) (hn : ls.Nodup) (hz : ls.length + 1 < scanBound)
    {Q : PUnit → Shared → Prop} (h : ∀ h', (∀ c, c ≠ r → h'.get? c = s.heap.get? c) → SetP h' r (ls.filter fun k => decide (k ∉ M)) → Q () { s with heap := h' }) :
    wpAny (model P w) A (forIn out.toList PUnit.unit fun x _ => do
      holding [x.2] (do
        let there ← setFind b x.2 x.1
        if (!there.isSome) = true then do
          let _ ← setAddHashed r x.2 x.1
          pure ()
        else pure ())
      Builtin.Frozenset.unchanged id a ep
      pure (ForInStep.yield PUnit.unit)) Q E s := by
  refine wp_loop (all := out.toList) (I := fun done s' => ∃ h' ds, s' = { s with heap := h' } ∧ KeysAre done ds ∧ (∀ c, c ≠ r → h'.get? c = s.heap.get? c) ∧ SetP h' r (ds.filter fun k => decide (k ∉ M))) (fun done x rest s' hd hI => ?_) (fun s' hI => ?_) (done := []) rfl ⟨s.heap, [], rfl, .nil, fun _ _ => rfl, xr⟩
  · obtain ⟨h', ds, rfl, hds, hc, hr⟩ := hI
    have hkall := hk
    rw [← hd] at hkall
    obtain ⟨d2, k2, e1, q1, q2⟩ := hkall.split
    have e2 := q1.det hds
    subst e2
    cases q2 with
    | @cons hx k tk es' k2 hh q3 =>
      subst hh
      subst e1
      have hkd : k ∉ d2 := fun z => (List.nodup_append.mp hn).2.2 k z k List.mem_cons_self rfl
      have xb' : SetP h' b M := xb.at fun o' e => by rw [hc b (fun z => rb z.symm)]; exact e
      have hlen : (d2.filter fun k => decide (k ∉ M)).length + 1 < scanBound := by
        have h1 := List.length_filter_le (fun k => decide (k ∉ M)) d2
        have h2 : (d2 ++ k :: k2).length = d2.length + (k2.length + 1) := by rw [List.length_append, List.length_cons]
        omega
      have va' : ∀ h2 : Heap, (∀ c, c ≠ r → h2.get? c = s.heap.get? c) → SetV h2 a ks o es ep t := fun h2 hc2 => ⟨by rw [hc2 a fun z => ra z.symm]; exact va.ob, va.ex, va.da, va.ke, va.nd, va.sz, va.ft⟩
      refine wpAny_bind (wpAny_holding ?_)
      refine wpAny_bind (find_set (s := { s with heap := h' }) xb' fun i hi => ?_)
      have kk : KeysAre (done ++ [(hashInt k, Value.int k tk)]) (d2 ++ [k]) := hds.append (.cons rfl .nil)
      by_cases hm : k ∈ M
      · have e3 : i.isSome = true := by rw [hi, decide_eq_true hm]
        rw [e3]
        refine wp_if_neg (by simp) (wpAny_pure ?_)
        refine wpAny_bind (same_set (s := { s with heap := h' }) (va' h' hc) (wpAny_pure ⟨rfl, h', d2 ++ [k], rfl, kk, hc, ?_⟩))
        rw [List.filter_append, List.filter_cons, if_neg (by simp [hm]), List.filter_nil, List.append_nil]
        exact hr
      · have e3 : i.isSome = false := by rw [hi, decide_eq_false hm]
        rw [e3]
        refine wp_if_pos rfl ?_
        refine wpAny_bind (add_set (s := { s with heap := h' }) hr (fun z => hkd (List.mem_filter.mp z).1) hlen fun h2 hb hS => wpAny_pure ?_)
        have hc2 : ∀ c, c ≠ r → h2.get? c = s.heap.get? c := fun c hcr => (hb.2 c hcr).trans (hc c hcr)
        refine wpAny_bind (same_set (s := { s with heap := h2 }) (va' h2 hc2) (wpAny_pure ⟨rfl, h2, d2 ++ [k], rfl, kk, hc2, ?_⟩))
        rw [List.filter_append, List.filter_cons, if_pos (by simp [hm]), List.filter_nil]
        exact hS
  · obtain ⟨h', ds, rfl, hds, hc, hr⟩ := hI
    have e := hds.det hk
    subst e
    exact h h' hc hr
/-- a copy of a small set -/
theorem copy_set (xa : SetP s.heap a L) (h4 : L.length = 4) {Q : Value → Shared → Prop} (h : ∀ h' : Heap, (∀ c o, s.heap.get? c = some o → h'.get? c = some o) → (∃ ks o es ep t, SetV h' s.heap.objs.size ks o es ep t ∧ ks.Perm L ∧ t.dummies = #[]) → Q (.ref s.heap.objs.size) { s with heap := h' }) :
    wpAny (model P w) A (Builtin.Frozenset.copyOf a) Q E s := by
  obtain ⟨ks, o, es, ep, t, va, p⟩ := id xa
  have hne : s.heap.objs.size ≠ a := Nat.ne_of_gt (Heap.lt_size va.ob)
  have hes : es.size = 4 := by rw [← Array.length_toList, va.ke.length, p.length_eq, h4]
  unfold Builtin.Frozenset.copyOf
  refine wpAny_bind (base_set xa ?_)
  refine wpAny_bind (new_set fun led => ?_)
  have v0 := setP_new (led := led) (h := s.heap)
  have va' : SetV (s.heap.push { cls := .type "set", dict := none, data := .set #[] 0 (.fresh 0 0 led) }) a ks o es ep t := ⟨Heap.get?_push_of_some _ va.ob, va.ex, va.da, va.ke, va.nd, va.sz, va.ft⟩
  generalize hH : s.heap.push { cls := .type "set", dict := none, data := .set #[] 0 (.fresh 0 0 led) } = H1 at v0 va'
  have old : ∀ c o, s.heap.get? c = some o → H1.get? c = some o := fun c o e => by rw [← hH]; exact Heap.get?_push_of_some _ e
  unfold Builtin.Frozenset.addrOf
  refine wpAny_bind (wpAny_pure ?_)
  refine wpAny_bind ?_
  unfold setMerge
  refine wp_if_neg (by simpa using hne) ?_
  refine wpAny_bind (wpAny_setState_of (s := { s with heap := H1 }) va'.ob va'.da va'.ft ?_)
  dsimp only
  refine wp_if_neg (by
    intro z
    have : es.size = 0 := by simpa using z
    omega) ?_
  refine wpAny_bind ?_
  unfold setRoomFor
  refine wpAny_bind (wpAny_setState_of (s := { s with heap := H1 }) v0.ob v0.da v0.ft ?_)
  dsimp only
  have e0 : (SetTable.fresh 0 0 led).roomFor es.size = none := by rw [hes]; rfl
  rw [e0]
  refine wpAny_pure ?_
  refine wpAny_bind (wpAny_setState_of (s := { s with heap := H1 }) v0.ob v0.da v0.ft ?_)
  dsimp only
  have fin : ∀ (es2 : Array (Int × Value)) (t2 : SetTable), es2.toList.Perm es.toList → t2.fits es2.size = true → t2.dummies = #[] →
      wpAny (model P w) A (storeSet s.heap.objs.size es2 t2) (fun _ s' => wpAny (model P w) A (pure (Value.ref s.heap.objs.size)) Q E s') E { s with heap := H1 } := fun es2 t2 hp hf hd => by
    have hsz : es2.size = es.size := by rw [← Array.length_toList, hp.length_eq, Array.length_toList]
    refine wpAny_storeSet_of (s := { s with heap := H1 }) v0.ob v0.da (wpAny_pure ?_) (fits_of_scanBound (by rw [hsz]; exact va.sz))
    obtain ⟨ls, h1, h2⟩ := va.ke.perm hp
    have hg := (SetOf_store (knd := intKind P w) (S' := fun k => decide (k ∈ ls)) v0.ob v0.ex v0.da (keys_elems h1) (fun k => by
        rw [decide_eq_true_iff]
        exact ⟨fun z => let ⟨t', q⟩ := h1.mem_k z; ⟨_, q, by show (k == k) = true; exact beq_self_eq_true k⟩, fun ⟨e, he, hp'⟩ => by
          obtain ⟨k', t', rfl, q⟩ := h1.mem_e he
          have e2 : k' = k := eq_of_beq hp'
          rw [← e2]; exact q⟩) (by rw [hsz]; exact va.sz) hf).1
    refine h _ (fun c o' e => ?_) ⟨ls, _, es2, _, t2, ⟨hg, ⟨rfl, rfl, rfl⟩, rfl, h1, h2.nodup_iff.mpr va.nd, by rw [hsz]; exact va.sz, hf⟩, h2.trans p, hd⟩
    show (H1.update _ _).get? c = _
    rw [Heap.get?_update_ne _ c _ _ fun z => by rw [z] at e; exact absurd (Heap.lt_size e) (Nat.lt_irrefl _)]
    exact old c o' e
  cases hroad : (SetTable.fresh 0 0 led).road t with
  | oneByOne =>
    exfalso
    unfold SetTable.road at hroad
    rw [if_neg (by show ¬ ((0 : Nat) != 0) = true; decide)] at hroad
    split at hroad <;> cases hroad
  | slotForSlot =>
    have hd : t.dummies = #[] := by
      unfold SetTable.road at hroad
      rw [if_neg (by show ¬ ((0 : Nat) != 0) = true; decide)] at hroad
      split at hroad
      · rename_i hc
        rw [Bool.and_eq_true] at hc
        have := hc.2
        simpa using this
      · cases hroad
    exact fin es _ (List.Perm.refl _) va.ft hd
  | clean =>
    dsimp only
    obtain ⟨t', order, e1, e2, e3, e4, e5, e6, e7⟩ := relaid_ok (hs := es.map (·.1)) (wanted := 0) (M := 7) { mask := 7, place := #[], dummies := #[], finger := (SetTable.fresh 0 0 led).finger, led := (SetTable.fresh 0 0 led).led && t.led, moves := (SetTable.fresh 0 0 led).moves, plain := (SetTable.fresh 0 0 led).plain && t.plain } rfl (.inl rfl) (by rw [Array.size_map]; omega)
    have e8 : SetTable.laid (SetTable.fresh 0 0 led).mask (SetTable.fresh 0 0 led).finger (SetTable.fresh 0 0 led).moves ((SetTable.fresh 0 0 led).led && t.led) ((SetTable.fresh 0 0 led).plain && t.plain) (es.map (·.1)) = some (t', order) := e1
    rw [e8]
    have hpm : (order.filterMap (es[·]?)).toList.Perm es.toList := by
      rw [Array.toList_filterMap]
      have e9 : (List.range es.size).filterMap (es[·]?) = es.toList := by
        have e := range_fm es.toList
        rw [Array.length_toList] at e
        simpa only [Array.getElem?_toList] using e
      rw [← e9]
      rw [Array.size_map] at e2
      exact e2.filterMap _
    have hsz : (order.filterMap (es[·]?)).size = es.size := by rw [← Array.length_toList, hpm.length_eq, Array.length_toList]
    refine wpAny_bind ?_
    show wpAny _ _ (if ((order.filterMap (es[·]?)).size != es.size) = true then _ else _) _ _ _
    refine wp_if_neg (by rw [hsz]; simp) (wpAny_pure ?_)
    refine fin _ t' hpm ?_ e7
    rw [hsz]
    unfold SetTable.fits SetTable.fill
    rw [e7, e4, Bool.and_eq_true]
    have hp8 : t'.place.size = es.size := by
      rw [e3.sz, List.length_map, e2.length_eq, List.length_range, Array.size_map]
    rw [hp8]
    exact ⟨by simp, decide_eq_true (by show es.size + 0 ≤ 7; omega)⟩
end
end SD

set_option Elab.async false
set_option linter.all false
set_option maxRecDepth 100000
set_option maxHeartbeats 1000000
/-! SD2: x - y of two sets of ints. -/
namespace SD
open PySem PySem.Spec PyProof.Rows L2
section
variable {P : Program} {w : World} {A : Around} {E : Value → Shared → Prop} {s : Shared} {a b r : Addr} {L M : List Int}
theorem diff_set {sid : String} (xa : SetP s.heap a L) (xb : SetP s.heap b M) (hz : L.length + 1 < scanBound) (hs : L.length ≤ 4 ∨ L.length / 4 ≤ M.length) {Q : Value → Shared → Prop}
    (h : ∀ (h' : Heap) (r : Addr) (N : List Int), s.heap.objs.size ≤ r → (∀ c o, s.heap.get? c = some o → h'.get? c = some o) → (∀ k, k ∈ N ↔ k ∈ L ∧ k ∉ M) → SetP h' r N → N.length ≤ L.length → Q (.ref r) { s with heap := h' }) :
    wpAny (model P w) A (Builtin.Frozenset.difference sid a (.ref b)) Q E s := by
  unfold Builtin.Frozenset.difference
  refine wpAny_bind (any_set xb ?_)
  refine wp_if_neg (by simp) ?_
  unfold Builtin.Frozenset.addrOf
  refine wpAny_bind (wpAny_pure ?_)
  refine wp_if_neg (by simp) ?_
  refine wp_if_pos rfl ?_
  refine wpAny_bind (size_set xb ?_)
  refine wpAny_bind (size_set xa ?_)
  by_cases hc : L.length / 4 > M.length
  · have h4 : L.length = 4 ∧ M.length = 0 := by omega
    have hM : M = [] := List.eq_nil_of_length_eq_zero h4.2
    subst hM
    refine wp_if_pos hc (wpAny_bind (wpAny_rule ?_))
    refine wpAny_bind (copy_set xa h4.1 fun h' old hr => ?_)
    obtain ⟨ks, o, es, ep, t, vr, p, hd⟩ := hr
    refine wpAny_bind (wpAny_pure ?_)
    have xb' : SetP h' b [] := xb.at fun o' e => old b o' e
    have hbr : b ≠ s.heap.objs.size := by
      obtain ⟨_, o2, _, _, _, v2, _⟩ := xb
      exact Nat.ne_of_lt (Heap.lt_size v2.ob)
    refine wpAny_bind (wpAny_holding ?_)
    unfold Builtin.Frozenset.differenceUpdate
    refine wp_if_neg (by simpa using hbr) ?_
    refine wpAny_bind (any_set (s := { s with heap := h' }) xb' ?_)
    refine wp_if_pos rfl ?_
    unfold Builtin.Frozenset.addrOf
    refine wpAny_bind (wpAny_pure ?_)
    refine wpAny_bind (size_set (s := { s with heap := h' }) xb' ?_)
    refine wpAny_bind (size_set (s := { s with heap := h' }) ⟨ks, o, es, ep, t, vr, p⟩ ?_)
    refine wp_if_neg (by show ¬ ([] : List Int).length / 8 > L.length; simp) ?_
    obtain ⟨ks2, o2, es2, ep2, t2, vb, p2⟩ := id xb'
    refine wpAny_bind (epoch_set (s := { s with heap := h' }) vb ?_)
    refine wpAny_bind (wpAny_holding ?_)
    refine wpAny_bind (wp_walkU (s := { s with heap := h' }) (f := none) xb' (fun c hcm => ?_) (fun _ z => nomatch z) fun out ls h2 hk hp hc2 _ _ => ?_)
    · rw [List.mem_singleton.mp hcm]
      exact ⟨L, ks, o, es, ep, t, vr, p⟩
    have hls : ls = [] := List.eq_nil_of_length_eq_zero (by rw [hp.length_eq]; rfl)
    subst hls
    have ho : out.toList = [] := by
      cases hq : out.toList with
      | nil => rfl
      | cons x xs => rw [hq] at hk; cases hk
    have e2 : h2.get? s.heap.objs.size = h'.get? s.heap.objs.size := hc2 _ (fun z => nomatch z)
    refine wpAny_bind ?_
    rw [← Array.forIn_toList, ho]
    refine wpAny_pure ?_
    refine wpAny_pure ?_
    have vr2 : SetV h2 s.heap.objs.size ks o es ep t := ⟨by rw [e2]; exact vr.ob, vr.ex, vr.da, vr.ke, vr.nd, vr.sz, vr.ft⟩
    unfold setTidy
    refine wpAny_bind (wpAny_setState_of (s := { s with heap := h2 }) vr2.ob vr2.da vr2.ft ?_)
    dsimp only
    refine wp_if_neg (by
      unfold SetTable.tooManyDummies
      rw [hd]
      simp) (wpAny_pure ?_)
    refine wpAny_pure (h h2 _ L (Nat.le_refl _) (fun c o' e => by rw [hc2 c (fun z => nomatch z)]; exact old c o' e) (fun k => by simp) ⟨ks, o, es, ep, t, vr2, p⟩ (Nat.le_refl _))
  · refine wp_if_neg hc ?_
    refine wpAny_bind (base_set xa ?_)
    refine wpAny_bind (new_set fun led => ?_)
    have v0 := setP_new (led := led) (h := s.heap)
    generalize hH : s.heap.push { cls := .type "set", dict := none, data := .set #[] 0 (.fresh 0 0 led) } = H1 at v0
    have old : ∀ c o, s.heap.get? c = some o → H1.get? c = some o := fun c o e => by rw [← hH]; exact Heap.get?_push_of_some _ e
    have xa' : SetP H1 a L := xa.at fun o' e => old a o' e
    have xb' : SetP H1 b M := xb.at fun o' e => old b o' e
    have x0 : SetP H1 s.heap.objs.size [] := ⟨[], _, _, _, _, v0, List.Perm.refl _⟩
    have ra : s.heap.objs.size ≠ a := by
      obtain ⟨_, o2, _, _, _, v2, _⟩ := xa
      exact Nat.ne_of_gt (Heap.lt_size v2.ob)
    have rb : s.heap.objs.size ≠ b := by
      obtain ⟨_, o2, _, _, _, v2, _⟩ := xb
      exact Nat.ne_of_gt (Heap.lt_size v2.ob)
    refine wpAny_bind (wpAny_pure ?_)
    obtain ⟨ks, o, es, ep, t, va, p⟩ := id xa'
    refine wpAny_bind (epoch_set (s := { s with heap := H1 }) va ?_)
    refine wpAny_bind (wpAny_holding ?_)
    refine wpAny_bind (wp_if_pos rfl (wp_walkU (s := { s with heap := H1 }) (f := some s.heap.objs.size) xa' (fun c hcm => ?_) (fun c e => ?_) fun out ls h2 hk hp hc2 hsz hr2 => ?_))
    · simp only [List.mem_cons, List.not_mem_nil, or_false] at hcm
      rcases hcm with e | e
      · rw [e]; exact ⟨M, xb'⟩
      · rw [e]; exact ⟨[], x0⟩
    · cases e
      exact ⟨[], x0⟩
    have hn : ls.Nodup := hp.nodup_iff.mpr xa.nd
    have k2 : ∀ c, c ≠ s.heap.objs.size → h2.get? c = H1.get? c := fun c hcn => hc2 c fun z => hcn (Option.some.inj z).symm
    have va2 : SetV h2 a ks o es ep t := ⟨by rw [k2 a ra.symm]; exact va.ob, va.ex, va.da, va.ke, va.nd, va.sz, va.ft⟩
    refine wpAny_bind ?_
    rw [← Array.forIn_toList]
    refine diff_loop (s := { s with heap := h2 }) (id := sid) va2 (xb'.at fun o' e => by rw [k2 b rb.symm]; exact e) (hr2 _ [] rfl x0) ra rb hk hn (by rw [hp.length_eq]; exact hz) fun h3 hc3 hr3 => ?_
    refine wpAny_pure (wpAny_pure ?_)
    refine h h3 _ _ (Nat.le_refl _) (fun c o' e => ?_) (fun k => ?_) hr3 (Nat.le_trans (List.length_filter_le _ _) (Nat.le_of_eq hp.length_eq))
    · have hcn : c ≠ s.heap.objs.size := Nat.ne_of_lt (Heap.lt_size e)
      rw [hc3 c hcn, k2 c hcn]
      exact old c o' e
    · rw [List.mem_filter, decide_eq_true_iff, hp.mem_iff]
theorem entry_set_sub : entryFor table "set.__sub__" = some Builtin.«frozenset.__sub__» := entryFor_alias (id' := "frozenset.__sub__") (by kernel_rfl) rfl (by decide +kernel) (by kernel_rfl)
theorem sub_set (xa : SetP s.heap a L) (xb : SetP s.heap b M) (hz : L.length + 1 < scanBound) (hs : L.length ≤ 4 ∨ L.length / 4 ≤ M.length) {Q : Value → Shared → Prop}
    (h : ∀ (h' : Heap) (r : Addr) (N : List Int), s.heap.objs.size ≤ r → (∀ c o, s.heap.get? c = some o → h'.get? c = some o) → (∀ k, k ∈ N ↔ k ∈ L ∧ k ∉ M) → SetP h' r N → N.length ≤ L.length → Q (.ref r) { s with heap := h' }) :
    wpAny (model P w) A (binaryOp .Sub (.ref a) (.ref b)) Q E s := by
  have hTa : s.TypeIs (.ref a) "set" := by
    obtain ⟨_, o, _, _, _, v, _⟩ := xa
    exact ⟨o, v.ob, v.ex.1⟩
  have hTb : s.TypeIs (.ref b) "set" := by
    obtain ⟨_, o, _, _, _, v, _⟩ := xb
    exact ⟨o, v.ob, v.ex.1⟩
  refine wpAny_binaryOp_same hTa hTb F.fills_set_sub F.slot_set_sub (wpAny_call_entry F.slot_set_sub hTa entry_set_sub ?_ (F.args_set_sub_2 _ _))
  unfold Builtin.«frozenset.__sub__»
  refine wpAny_bind (m := Builtin.Frozenset.slot1 "__sub__" _) ?_
  unfold Builtin.Frozenset.slot1
  refine wpAny_bind (m := slotArgs "__sub__" 1 _) (wpAny_pure ?_)
  refine wpAny_pure ?_
  simp only [Bool.false_eq_true, if_false]
  refine wpAny_bind (m := (Builtin.Frozenset.isAnySet (.ref a) <&&> Builtin.Frozenset.isAnySet (.ref b))) ?_
  unfold andM
  refine wpAny_bind (any_set xa (any_set xb ?_))
  refine wp_if_neg (by simp) ?_
  unfold Builtin.Frozenset.addrOf
  refine wpAny_bind (wpAny_pure ?_)
  refine wpAny_bind (diff_set xa xb hz hs fun h' r N h1 h2 h3 h4 h5 => ?_)
  exact wpAny_pure ⟨_, rfl, (fun z => nomatch z), h h' r N h1 h2 h3 h4 h5⟩
end
end SD

set_option Elab.async false
set_option linter.all false
set_option maxRecDepth 100000
set_option maxHeartbeats 1000000
/-! SD3: rules for sets of ints. -/
namespace SD
open PySem PySem.Spec PyProof.Rows L2
/-- a set of just the ints L -/
def SetI (a : Addr) (L : List Int) : HO := .ext fun h => SetP h a L
theorem setI_ok {P : Program} {w : World} {H : Hp} {h : Heap} {a : Addr} {L : List Int} (x : SetP h a L) : ObjOk P w H h a (SetI a L) := by
  refine ⟨x, ?_, fun h1 h2 y k => y.at k⟩
  obtain ⟨_, o, _, _, _, v, _⟩ := x
  exact ⟨o, v.ob⟩
theorem firstMet_mem : ∀ (ns acc : List Int) (k : Int), k ∈ ns.foldl step_dedup acc ↔ k ∈ acc ∨ k ∈ ns
  | [], acc, k => by simp
  | n :: ns, acc, k => by
    rw [List.foldl_cons, firstMet_mem ns]
    unfold step_dedup
    split
    · rename_i h
      rw [List.any_eq_true] at h
      obtain ⟨x, hx, e⟩ := h
      have e : x = n := eq_of_beq e
      subst e
      constructor
      · rintro (h | h)
        · exact .inl h
        · exact .inr (List.mem_cons_of_mem _ h)
      · rintro (h | h)
        · exact .inl h
        · rcases List.mem_cons.mp h with e | h
          · rw [e]; exact .inl hx
          · exact .inr h
    · rw [List.mem_append, List.mem_singleton, List.mem_cons, or_assoc]
theorem firstMet_nd : ∀ (ns acc : List Int), acc.Nodup → (ns.foldl step_dedup acc).Nodup
  | [], acc, h => h
  | n :: ns, acc, h => by
    rw [List.foldl_cons]
    refine firstMet_nd ns _ ?_
    unfold step_dedup
    split
    · exact h
    · rename_i hn
      refine List.nodup_append.mpr ⟨h, by simp, fun p hp q hq e => hn ?_⟩
      rw [List.mem_singleton.mp hq] at e
      rw [List.any_eq_true]
      exact ⟨p, hp, by rw [e]; exact beq_self_eq_true n⟩
theorem getD_range (ns : List Int) : (List.range ns.length).map (fun i => ns.getD i 0) = ns := by
  apply List.ext_getElem?
  intro i
  rw [List.getElem?_map]
  by_cases h : i < ns.length
  · rw [List.getElem?_range h]
    simp [h]
  · rw [List.getElem?_eq_none (by rw [List.length_range]; omega), List.getElem?_eq_none (by omega)]
    rfl
section
variable {X : Cx}
def rSetI (K : PySem.W.Frag) : List V → Hp → VK → Prop := fun xs H Q => ∃ (l : Addr) (ns : List Int), xs = [V.ref l] ∧ SqL K H l (ns.map V.int) ∧ ns.length + 1 < scanBound ∧
  ∀ (p : Addr) (L : List Int), H p = none → L.Nodup → (∀ k, k ∈ L ↔ k ∈ ns) → L.length ≤ ns.length → Q (.ref p) (upd H p (SetI p L))
theorem cr_setI (hc : X.calm = true) : CallR X (.type "set") (rSetI X.K) := by
  intro pins s σ H vs us Q I r h
  obtain ⟨l, ns, rfl, hs, hz, q⟩ := h
  obtain ⟨its, rv, hl, _⟩ := I.list hs
  rw [Vals.ref1 r]
  have hi := rv.ints
  have hlen : its.toArray.size = ns.length := by rw [List.size_toArray, hi.length]
  refine call_set_list (I.ok.hd hc) hl.isList (by simpa using hi) (by rw [hlen]; exact hz) fun h' tk hS hk => ?_
  have e0 : firstMet (fun i => ns.getD i 0) its.toArray.size = ns.foldl step_dedup [] := by
    unfold firstMet
    rw [hlen, getD_range]
  rw [e0] at hS
  have hP : SetP h' s.heap.objs.size (ns.foldl step_dedup []) := by
    refine SetP.of (P := X.prog) (w := X.w) hS (firstMet_nd ns [] List.nodup_nil) rfl fun k => ?_
    rw [List.any_eq_true]
    exact ⟨fun ⟨x, hx, e⟩ => by rw [← eq_of_beq e]; exact hx, fun hk => ⟨k, hk, beq_self_eq_true k⟩⟩
  refine ⟨.ref _, upd H s.heap.objs.size (SetI s.heap.objs.size (ns.foldl step_dedup [])), I.laid (t' := tk) (fun b o e => hk b o (Heap.lt_size e) e) (Nat.le_refl _) (setI_ok hP), rfl, q _ _ (I.hok.fresh (Nat.le_refl _)) (firstMet_nd ns [] List.nodup_nil) (fun k => by rw [firstMet_mem]; simp) ?_⟩
  have := firstMet_length_le (fun i => ns.getD i 0) its.toArray.size
  rw [e0, hlen] at this
  exact this
def rSubI : R2 := fun x y H Q => ∃ (a b : Addr) (L M : List Int), x = .ref a ∧ y = .ref b ∧ H a = some (SetI a L) ∧ H b = some (SetI b M) ∧ L.length + 1 < scanBound ∧ (L.length ≤ 4 ∨ L.length / 4 ≤ M.length) ∧
  ∀ (p : Addr) (N : List Int), H p = none → (∀ k, k ∈ N ↔ k ∈ L ∧ k ∉ M) → Q (.ref p) (upd H p (SetI p N))
theorem op_subI : OpR X (binaryOp .Sub) rSubI := by
  intro pins s σ H x y v u Q I rx ry h
  obtain ⟨a, b, L, M, rfl, rfl, ha, hb, hz, hs, q⟩ := h
  cases (show v = Value.ref a from rx)
  cases (show u = Value.ref b from ry)
  have xa : SetP s.heap a L := (I.hok a _ ha).1
  have xb : SetP s.heap b M := (I.hok b _ hb).1
  refine sub_set xa xb hz hs fun h' r N h1 h2 h3 h4 h5 => ?_
  exact ⟨.ref r, upd H r (SetI r N), I.laid (t' := s.toks) h2 h1 (setI_ok h4), rfl, q r N (I.hok.fresh h1) h3⟩
def rLenI : List V → Hp → VK → Prop := fun xs H Q => ∃ (a : Addr) (L : List Int), xs = [V.ref a] ∧ H a = some (SetI a L) ∧ Q (.int L.length) H
theorem cr_lenI : CallR X (.builtin "len") rLenI := by
  intro pins s σ H vs us Q I r h
  obtain ⟨a, L, rfl, ha, q⟩ := h
  rw [Vals.ref1 r]
  obtain ⟨ks, o, es, ep, t, v, p⟩ : SetP s.heap a L := (I.hok a _ ha).1
  have hl : es.size = L.length := by rw [← Array.length_toList, v.ke.length, p.length_eq]
  have hb := v.sz
  have e1 : scanBound = 4096 := rfl
  refine call_len_set v.ob v.ex v.da v.ft (by omega) ?_
  rw [hl]
  exact ⟨.int L.length, H, I.tok _, ⟨_, rfl⟩, q⟩
end
end SD

set_option Elab.async false
set_option linter.all false
set_option maxRecDepth 100000
set_option maxHeartbeats 2000000
/-! DL26: len(set(xs)), len(set(xs) - set(ys)). -/
namespace DL
open PySem PySem.Spec L2 SD
theorem boot_set' : bootBuiltins "set" = some (.type "set") := by decide +kernel
theorem ints_of {H : Hp} : ∀ {xs : List V} {ns : List Int}, RpA H xs (ns.map PyData.int) → xs = ns.map V.int
  | [], [], _ => rfl
  | _, [], h => by cases h; rfl
  | _, n :: ns, h => by
    rw [List.map_cons] at h
    cases h with
    | cons h r => rw [h.int', ints_of r]; rfl
section
variable {X : Cx} {Tb : List Addr} {δ : Dl} {a b e : Expr} {pos p1 p2 p3 p4 : Pos} {P : D → Prop}
/-- len(set(xs)) -/
theorem wpE_lenSet (hc : X.calm = true) (hl : X.mg "len" = none) (hs : X.mg "set" = none) (h : wpE X Tb e δ fun d => ∃ ns : List Int, d = .list (ns.map .int) ∧ ns.length ≤ 4000 ∧ ∀ L : List Int, L.Nodup → (∀ k, k ∈ L ↔ k ∈ ns) → L.length ≤ ns.length → P (.int (L.length : Nat)))
    (g1 : Gl X "len" := by rfl) (g2 : Gl X "set" := by rfl) (he : starEach [e] X.env = (false, eval e X.env) :: starEach [] X.env := by rfl) (hpl : (backTo p2 (starEach [] X.env)).any (·.1) = false := by rfl)
    (he2 : starEach [.Call (.Name "set" p1) [e] [] p2] X.env = (false, eval (.Call (.Name "set" p1) [e] [] p2) X.env) :: starEach [] X.env := by rfl) (hpl2 : (backTo pos (starEach [] X.env)).any (·.1) = false := by rfl) :
    wpE X Tb (.Call (.Name "len" p3) [.Call (.Name "set" p1) [e] [] p2] [] pos) δ P := fun B O0 M Lk σ τ H I Q q =>
  sem_e (pe_callB cr_lenI g1 hl boot_len' (pa_cons (pe_callTy (cr_setI hc) g2 hs boot_set' (pa_cons pe_sem pa_nil he) (by decide) (by decide) he hpl) pa_nil he2) (by decide) (by decide) he2 hpl2) (h B O0 M Lk σ τ H I _ fun v d H' J h1 => by
    obtain ⟨ns, rfl, hz, h1⟩ := h1
    obtain ⟨O, J⟩ := J
    obtain ⟨J0, r⟩ := J.pop1
    obtain ⟨l, xs, rfl, hl', rx⟩ := r.list'
    rw [ints_of rx] at hl'
    refine ⟨l, ns, rfl, SqL.of (vis_some hl').2, Nat.lt_of_le_of_lt (Nat.add_le_add_right hz 1) (by decide), fun p L hp h2 h3 h4 => ⟨p, L, rfl, upd_same, ?_⟩⟩
    obtain ⟨J2, _⟩ := J0.alloc (o := SetI p L) hp
    exact q _ _ _ ⟨O, J2.push (.int _)⟩ (h1 L h2 h3 h4))
/-- len(set(xs) - set(ys)) -/
theorem wpE_lenSub {p5 p6 p7 p8 : Pos} (hc : X.calm = true) (hl : X.mg "len" = none) (hs : X.mg "set" = none) (h : wpE X Tb a δ fun d => ∃ ns : List Int, d = .list (ns.map .int) ∧ ns.length ≤ 4000 ∧ wpE X Tb b δ fun d2 => ∃ ms : List Int, d2 = .list (ms.map .int) ∧ ms.length ≤ 4000 ∧ ns.length ≤ 4 ∧
      ∀ N : List Int, (∀ k, k ∈ N ↔ k ∈ ns ∧ k ∉ ms) → P (.int (N.length : Nat)))
    (g1 : Gl X "len" := by rfl) (g2 : Gl X "set" := by rfl) (hea : starEach [a] X.env = (false, eval a X.env) :: starEach [] X.env := by rfl) (heb : starEach [b] X.env = (false, eval b X.env) :: starEach [] X.env := by rfl) (hpa : (backTo p2 (starEach [] X.env)).any (·.1) = false := by rfl) (hpb : (backTo p6 (starEach [] X.env)).any (·.1) = false := by rfl)
    (he2 : starEach [.BinOp (.Call (.Name "set" p1) [a] [] p2) .Sub (.Call (.Name "set" p5) [b] [] p6) p7] X.env = (false, eval (.BinOp (.Call (.Name "set" p1) [a] [] p2) .Sub (.Call (.Name "set" p5) [b] [] p6) p7) X.env) :: starEach [] X.env := by rfl) (hpl2 : (backTo pos (starEach [] X.env)).any (·.1) = false := by rfl) :
    wpE X Tb (.Call (.Name "len" p3) [.BinOp (.Call (.Name "set" p1) [a] [] p2) .Sub (.Call (.Name "set" p5) [b] [] p6) p7] [] pos) δ P := fun B O0 M Lk σ τ H I Q q =>
  sem_e (pe_callB cr_lenI g1 hl boot_len' (pa_cons (pe_op op_subI (pe_callTy (cr_setI hc) g2 hs boot_set' (pa_cons pe_sem pa_nil hea) (by decide) (by decide) hea hpa) (pe_callTy (cr_setI hc) g2 hs boot_set' (pa_cons pe_sem pa_nil heb) (by decide) (by decide) heb hpb)) pa_nil he2) (by decide) (by decide) he2 hpl2) (h B O0 M Lk σ τ H I _ fun v d H' J h1 => by
    obtain ⟨ns, rfl, hz, h1⟩ := h1
    obtain ⟨O, J⟩ := J
    obtain ⟨J0, r⟩ := J.pop1
    obtain ⟨l, xs, rfl, hl', rx⟩ := r.list'
    rw [ints_of rx] at hl'
    refine ⟨l, ns, rfl, SqL.of (vis_some hl').2, Nat.lt_of_le_of_lt (Nat.add_le_add_right hz 1) (by decide), fun p L hp l1 l2 l3 => ?_⟩
    obtain ⟨J2, _, _⟩ := J0.hide (ob := SetI p L) hp
    refine h1 B O0 M (Lk.1, (p, SetI p L) :: Lk.2) σ τ _ ⟨_, J2⟩ _ fun v2 d2 H2 K h2 => ?_
    obtain ⟨ms, rfl, hy, h4, h2⟩ := h2
    obtain ⟨O2, K⟩ := K
    obtain ⟨K0, r2⟩ := K.pop1
    obtain ⟨l2', ys, rfl, hl2, ry⟩ := r2.list'
    rw [ints_of ry] at hl2
    have hp2 := (K0.hid _ List.mem_cons_self).1
    refine ⟨l2', ms, rfl, SqL.of (vis_some hl2).2, Nat.lt_of_le_of_lt (Nat.add_le_add_right hy 1) (by decide), fun p' M' hp' m1 m2 m3 => ?_⟩
    have hne : p ≠ p' := fun z => by rw [z, hp'] at hp2; cases hp2
    refine ⟨p, p', L, M', rfl, rfl, by rw [upd_ne hne]; exact hp2, upd_same, Nat.lt_of_le_of_lt (Nat.add_le_add_right (Nat.le_trans l3 hz) 1) (by decide), .inl (by omega), fun p'' N hn hN => ?_⟩
    refine ⟨p'', N, rfl, upd_same, ?_⟩
    obtain ⟨K2, _⟩ := K0.unhid.alloc (o := SetI p' M') hp'
    obtain ⟨K3, _⟩ := K2.alloc (o := SetI p'' N) hn
    exact q _ _ _ ⟨_, K3.push (.int _)⟩ (h2 N fun k => by rw [hN, l2, m2]))
end
end DL

set_option Elab.async false
set_option linter.all false
set_option maxRecDepth 100000
set_option maxHeartbeats 2000000
/-! DL27: pairs of ints: less, sorted. -/
namespace DL
open PySem PySem.Spec L2
section
variable {X : Cx} {Tb : List Addr} {δ : Dl}
def pairD (p : Int × Int) : D := .tuple [.int p.1, .int p.2]
def ltTR : D → D → (D → Prop) → Prop := fun d1 d2 P => ∃ p q : Int × Int, d1 = pairD p ∧ d2 = pairD q ∧ P (.bool (SrtO.lexB p q))
theorem lexLt_pair (p q : Int × Int) : HT.lexLt [p.1, p.2] [q.1, q.2] = SrtO.lexB p q := by
  unfold SrtO.lexB
  rw [HT.lexLt_cons, HT.lexLt_cons]
  by_cases e : p.1 = q.1
  · rw [if_pos e, if_pos e]
    by_cases e2 : p.2 = q.2
    · rw [if_pos e2]
      show false = decide _
      exact (decide_eq_false (by omega)).symm
    · rw [if_neg e2]
  · rw [if_neg e, if_neg e]
theorem pair_tup {H : Hp} {v : V} {p : Int × Int} (r : Rp H v (pairD p)) : ∃ a, v = .ref a ∧ H a = some (.tup [.int p.1, .int p.2]) := by
  obtain ⟨a, vs, rfl, ha, ra⟩ := Rp.tuple' r
  have e : vs = [V.int p.1, V.int p.2] := ints_of (ns := [p.1, p.2]) ra
  rw [e] at ha
  exact ⟨a, rfl, ha⟩
theorem ok_ltT : Ok2 X Tb (rLtT X.K) ltTR := by
  intro B O0 M Lk O δ σ τ H x y d1 d2 P I rx ry h Q q
  obtain ⟨p, p', rfl, rfl, h⟩ := h
  obtain ⟨a, rfl, ha⟩ := pair_tup rx
  obtain ⟨b, rfl, hb⟩ := pair_tup ry
  refine ⟨a, b, [p.1, p.2], [p'.1, p'.2], rfl, rfl, SqT.of (vis_some ha).2, SqT.of (vis_some hb).2, ?_⟩
  rw [lexLt_pair]
  exact q _ _ H ⟨O, I.push (.bl _)⟩ h
def sortPR : List D → (D → Prop) → Prop := fun ds P => ∃ ps : List (Int × Int), ds = [.list (ps.map pairD)] ∧ ∀ qs : List (Int × Int), qs.Perm ps → SrtO.Srtd SrtO.lexB qs → P (.list (qs.map pairD))
def kOf (H : Hp) : V → Int × Int
  | .ref a => match H a with
    | some (.tup [.int i, .int j]) => (i, j)
    | _ => (0, 0)
  | _ => (0, 0)
theorem pairs_of' {H : Hp} : ∀ {vs : List V} {ps : List (Int × Int)}, RpA H vs (ps.map pairD) → vs.map (kOf H) = ps ∧ ∀ x ∈ vs, ∃ t, x = V.ref t ∧ H t = some (.tup [.int (kOf H x).1, .int (kOf H x).2])
  | [], [], _ => ⟨rfl, fun _ z => nomatch z⟩
  | [], _ :: _, r => nomatch r
  | _ :: _, [], r => nomatch r
  | v :: vs, p :: ps, .cons h r => by
    obtain ⟨h1, h2⟩ := pairs_of' r
    obtain ⟨a, rfl, ha⟩ := pair_tup h
    have e : kOf H (.ref a) = p := by
      show (match H a with
        | some (.tup [.int i, .int j]) => (i, j)
        | _ => ((0, 0) : Int × Int)) = p
      rw [ha]
    refine ⟨by rw [List.map_cons, h1, e], fun x hx => ?_⟩
    rcases List.mem_cons.mp hx with rfl | hx
    · exact ⟨a, rfl, by rw [e]; exact ha⟩
    · exact h2 x hx
theorem rp_pairs {H : Hp} {k : V → Int × Int} : ∀ {vs : List V}, (∀ x ∈ vs, ∃ t, x = V.ref t ∧ H t = some (.tup [.int (k x).1, .int (k x).2])) → RpA H vs ((vs.map k).map pairD)
  | [], _ => .nil
  | v :: vs, h => by
    obtain ⟨t, e, ht⟩ := h v List.mem_cons_self
    refine .cons ?_ (rp_pairs fun x hx => h x (List.mem_cons_of_mem _ hx))
    have : Rp H (.ref t) (pairD (k v)) := .tup ht (.cons (.int _) (.cons (.int _) .nil))
    rw [e]
    rw [e] at this
    exact this
theorem ok_sortP : OkC X Tb (rSortedPO X.K) sortPR := by
  intro B O0 M Lk O δ σ τ H vs ds P I r h Q q
  obtain ⟨ps, rfl, h⟩ := h
  obtain ⟨v, rfl, rv⟩ := r.one'
  obtain ⟨a, xs, rfl, ha, rx⟩ := rv.list'
  obtain ⟨h1, h2⟩ := pairs_of' rx
  refine ⟨a, xs, kOf (vis O H), rfl, SqL.of (vis_some ha).2, fun x hx => ?_, fun ys p hs hb hn => ?_⟩
  · obtain ⟨t, e, ht⟩ := h2 x hx
    exact ⟨t, e, (vis_some ht).2⟩
  · have h3 : ∀ y ∈ ys, ∃ t, y = V.ref t ∧ vis O H t = some (.tup [.int (kOf (vis O H) y).1, .int (kOf (vis O H) y).2]) := fun y hy => h2 y (hb.perm.mem_iff.mp hy)
    refine q _ _ _ ⟨O, I.newLst (rp_pairs h3) hn⟩ (h _ ?_ (SrtO.srtd_map hs))
    rw [← h1]
    exact hb.perm.map _
/-- a list of pairs of which none is less than the one before it is found again by its items -/
theorem srt_uniq : ∀ {l m : List (Int × Int)}, SrtO.Srtd SrtO.lexB l → SrtO.Srtd SrtO.lexB m → l.Perm m → l = m
  | [], m, _, _, h => (List.Perm.eq_nil h.symm).symm
  | x :: l, [], _, _, h => absurd h.length_eq (by simp)
  | x :: l, y :: m, hl, hm, h => by
    have h1 : SrtO.lexB x y = false := by
      rcases List.mem_cons.mp (h.mem_iff.mp (List.mem_cons_self (a := x) (l := l))) with e | hx
      · rw [e]
        exact SrtO.lexB_no.mpr (by omega)
      · exact SrtO.srtd_head hm x hx
    have h2 : SrtO.lexB y x = false := by
      rcases List.mem_cons.mp (h.mem_iff.mpr (List.mem_cons_self (a := y) (l := m))) with e | hy
      · rw [e]
        exact SrtO.lexB_no.mpr (by omega)
      · exact SrtO.srtd_head hl y hy
    have e : x = y := by
      have a := SrtO.lexB_no.mp h1
      have b := SrtO.lexB_no.mp h2
      exact Prod.ext (by omega) (by omega)
    subst e
    rw [srt_uniq (List.pairwise_cons.mp hl).2 (List.pairwise_cons.mp hm).2 h.cons_inv]
end
end DL

set_option Elab.async false
set_option linter.all false
set_option maxRecDepth 100000
set_option maxHeartbeats 2000000
/-! DL28: a test in a frame without its last name (a generator whose own name is the name of a comprehension of the frame). -/
namespace DL
open PySem PySem.Spec L2
abbrev cutN (X : Cx) (N0 : List Str) : Cx := { X with N := N0 }
section
variable {X : Cx} {N0 : List Str} {y : Str} {pins : List (Addr × Obj)} {σ0 : L2.St} {u : Option V} {H : Hp} {s : Shared}
theorem inv_cut (hN : X.N = N0 ++ [y]) (hl : σ0.length = N0.length) (I : Inv X pins (σ0 ++ [u]) H s) : Inv (cutN X N0) pins σ0 H s := by
  refine ⟨⟨I.ok.mod, I.ok.kind, I.ok.glob, I.ok.blt, I.ok.above, I.ok.inj, I.ok.has, I.ok.cab, I.ok.hd, I.ok.frames, I.ok.stk, I.ok.exf, I.ok.bs, I.ok.bsz, I.ok.noex, I.ok.exfs, I.ok.funs, I.ok.frf⟩, I.os, I.bare, I.base, ?_, I.cell, I.free, I.freeC, I.pin, I.hok, hl⟩
  obtain ⟨m, hm, h⟩ := I.loc
  refine ⟨m, hm, fun i x v e1 e2 e3 => h i x v ?_ ?_ e3⟩
  · rw [hN]
    exact (List.getElem?_append_left (List.getElem?_eq_some_iff.mp e1).1).trans e1
  · exact (List.getElem?_append_left (List.getElem?_eq_some_iff.mp e2).1).trans e2
theorem inv_back (hN : X.N = N0 ++ [y]) (I : Inv (cutN X N0) pins σ0 H s) : Inv X pins (σ0 ++ [none]) H s := by
  have hl : σ0.length = N0.length := I.len
  refine ⟨⟨I.ok.mod, I.ok.kind, I.ok.glob, I.ok.blt, I.ok.above, I.ok.inj, I.ok.has, I.ok.cab, I.ok.hd, I.ok.frames, I.ok.stk, I.ok.exf, I.ok.bs, I.ok.bsz, I.ok.noex, I.ok.exfs, I.ok.funs, I.ok.frf⟩, I.os, I.bare, I.base, ?_, I.cell, I.free, I.freeC, I.pin, I.hok, by rw [hN, List.length_append, List.length_append, hl]; rfl⟩
  obtain ⟨m, hm, h⟩ := I.loc
  refine ⟨m, hm, fun i x v e1 e2 e3 => ?_⟩
  by_cases hi : i < σ0.length
  · rw [List.getElem?_append_left hi] at e2
    rw [hN, List.getElem?_append_left (by rw [← hl]; exact hi)] at e1
    exact h i x v e1 e2 e3
  · rw [List.getElem?_append_right (Nat.le_of_not_lt hi)] at e2
    cases hk : i - σ0.length with
    | zero => rw [hk] at e2; cases e2
    | succ k => rw [hk] at e2; cases e2
theorem inv_wipe (hN : X.N = N0 ++ [y]) (hl : σ0.length = N0.length) (I : Inv X pins (σ0 ++ [u]) H s) : Inv X pins (σ0 ++ [none]) H s := inv_back hN (inv_cut hN hl I)
theorem semT_cut {c : Expr} {Q : Bool → Hp → Prop} (hN : X.N = N0 ++ [y]) (hl : σ0.length = N0.length) (h : semT (cutN X N0) c σ0 H Q) : semT X c (σ0 ++ [none]) H Q :=
  ⟨fun pins s I => thn (h.run pins s (inv_cut hN hl I)) fun b s' ⟨H', I', q⟩ => ⟨H', inv_back hN I', q⟩⟩
theorem semS_wipe {st : Stmt} {D : Ends} (hN : X.N = N0 ++ [y]) (hl : σ0.length = N0.length) (h : semS X st D (σ0 ++ [none]) H) : semS X st D (σ0 ++ [u]) H :=
  ⟨fun pins s I => h.run pins s (inv_wipe hN hl I)⟩
theorem at_cut {G : Glo} {B : Hp} {O0 M O : List Addr} {Lk : Lks} {δ0 : Dl} {τ : List (V × D)} (I : AtO G B O0 M Lk O (δ0 ++ [none]) (σ0 ++ [u]) τ H) (hl : σ0.length = δ0.length) : AtO G B O0 M Lk O δ0 σ0 τ H := by
  have dl : ∀ {i : Nat} {sl : Option Sl}, δ0[i]? = some sl → (δ0 ++ [none])[i]? = some sl := fun e => (List.getElem?_append_left (List.getElem?_eq_some_iff.mp e).1).trans e
  have sl' : ∀ {i : Nat} {v : Option V}, i < δ0.length → (σ0 ++ [u])[i]? = σ0[i]? := fun h => List.getElem?_append_left (by rw [hl]; exact h)
  have lt : ∀ {i : Nat} {sl : Option Sl}, δ0[i]? = some sl → i < δ0.length := fun e => (List.getElem?_eq_some_iff.mp e).1
  refine ⟨I.sub0, I.subM, I.o0, I.new, I.live, I.gr, fun p hp => ⟨(I.hid p hp).1, (I.hid p hp).2.1, (I.hid p hp).2.2.1, fun i o e => ?_⟩, I.hidT, I.feeds, I.tabs, I.tmp, hl.symm, fun i sl e => ?_, fun i j o o' p e1 e2 e3 e4 => ?_, I.lck, I.nof⟩
  · have := (I.hid p hp).2.2.2 i o (dl e)
    rw [sl' (v := none) (lt e)] at this
    exact this
  · obtain ⟨v, e2, k⟩ := I.slots i sl (dl e)
    rw [sl' (v := none) (lt e)] at e2
    exact ⟨v, e2, k⟩
  · exact I.sep i j o o' p (dl e1) (dl e2) (by rw [sl' (v := none) (lt e1)]; exact e3) (by rw [sl' (v := none) (lt e2)]; exact e4)
theorem at_back {G : Glo} {B : Hp} {O0 M O : List Addr} {Lk : Lks} {δ0 : Dl} {τ : List (V × D)} (I : AtO G B O0 M Lk O δ0 σ0 τ H) : AtO G B O0 M Lk O (δ0 ++ [none]) (σ0 ++ [none]) τ H := by
  have hl := I.len
  have lt : ∀ {i : Nat} {sl : Sl}, (δ0 ++ [none])[i]? = some (some sl) → i < δ0.length := fun {i sl} e => by
    by_cases hi : i < δ0.length
    · exact hi
    · rw [List.getElem?_append_right (Nat.le_of_not_lt hi)] at e
      cases hk : i - δ0.length with
      | zero => rw [hk] at e; cases e
      | succ k => rw [hk] at e; cases e
  have dl : ∀ {i : Nat} {sl : Sl}, (δ0 ++ [none])[i]? = some (some sl) → δ0[i]? = some (some sl) := fun e => by
    rw [List.getElem?_append_left (lt e)] at e
    exact e
  have sl' : ∀ {i : Nat}, i < δ0.length → (σ0 ++ [none])[i]? = σ0[i]? := fun h => List.getElem?_append_left (by rw [← hl]; exact h)
  refine ⟨I.sub0, I.subM, I.o0, I.new, I.live, I.gr, fun p hp => ⟨(I.hid p hp).1, (I.hid p hp).2.1, (I.hid p hp).2.2.1, fun i o e => ?_⟩, I.hidT, I.feeds, I.tabs, I.tmp, by rw [List.length_append, List.length_append, hl]; rfl, fun i sl e => ?_, fun i j o o' p e1 e2 e3 e4 => ?_, I.lck, I.nof⟩
  · have := (I.hid p hp).2.2.2 i o (dl e)
    rw [← sl' (lt e)] at this
    exact this
  · obtain ⟨v, e2, k⟩ := I.slots i sl (dl e)
    exact ⟨v, by rw [sl' (lt e)]; exact e2, k⟩
  · exact I.sep i j o o' p (dl e1) (dl e2) (by rw [← sl' (lt e1)]; exact e3) (by rw [← sl' (lt e2)]; exact e4)
/-- if c: the test in the frame without its last name, of which nothing is told -/
theorem wpS_ifCut {Tb : List Addr} {δ0 : Dl} {R : Rs} {c : Expr} {sa sb : List Stmt} {pos : Pos} (N0 : List Str) (hN : X.N = N0 ++ [y]) (hd : δ0.length = N0.length) (h : wpT (cutN X N0) Tb c δ0 fun k => if k = true then wpSs X Tb sa (δ0 ++ [none]) R else wpSs X Tb sb (δ0 ++ [none]) R) : wpS X Tb (.If c sa sb pos) (δ0 ++ [none]) R := fun B O0 M Lk σ τ H I => by
  obtain ⟨O, I⟩ := I
  have hlen := I.len
  rw [List.length_append] at hlen
  obtain ⟨σ0, u, rfl⟩ : ∃ σ0 u, σ = σ0 ++ [u] := by
    rcases List.eq_nil_or_concat σ with e | ⟨σ0, u, e⟩
    · rw [e] at hlen
      simp at hlen
    · exact ⟨σ0, u, by rw [e, List.concat_eq_append]⟩
  have hl : σ0.length = δ0.length := by
    rw [List.length_append] at hlen
    have : [(none : Option Sl)].length = 1 := rfl
    have : [u].length = 1 := rfl
    omega
  refine semS_wipe hN (by rw [hl, hd]) ?_
  refine sem_s (ps_if pt_sem pss_sem pss_sem) (semT_cut hN (by rw [hl, hd]) (h B O0 M Lk σ0 τ H ⟨O, at_cut I hl⟩ _ fun k H' J q => ?_))
  obtain ⟨O', J⟩ := J
  cases k with
  | true => exact q B O0 M Lk _ τ H' ⟨O', at_back J⟩
  | false => exact q B O0 M Lk _ τ H' ⟨O', at_back J⟩
end
end DL

set_option Elab.async false
set_option linter.all false
set_option maxRecDepth 100000
set_option maxHeartbeats 2000000
/-! DL29: slices of lists with any bounds. -/
namespace DL
open PySem PySem.Spec L2
def cutA {α : Type} (xs : List α) (lo hi : Option Int) : List α := (xs.drop (HT.sIx xs.length 0 lo)).take (HT.sIx xs.length xs.length hi - HT.sIx xs.length 0 lo)
theorem cutA_mem {α : Type} {xs : List α} {lo hi : Option Int} {x : α} (h : x ∈ cutA xs lo hi) : x ∈ xs := List.mem_of_mem_drop (List.mem_of_mem_take h)
theorem cutA_len {α : Type} {xs : List α} {lo hi : Option Int} : (cutA xs lo hi).length ≤ xs.length := by
  unfold cutA
  rw [List.length_take, List.length_drop]
  omega
theorem cutA_map {α β : Type} {f : α → β} {xs : List α} {lo hi : Option Int} : cutA (xs.map f) lo hi = (cutA xs lo hi).map f := by
  unfold cutA
  rw [List.length_map, List.map_take, List.map_drop]
theorem RpA.cut {H : Hp} {vs : List V} {ds : List D} {lo hi : Option Int} (r : RpA H vs ds) : RpA H (cutV vs lo hi) (cutA ds lo hi) := by
  unfold cutV cutA
  rw [r.length]
  exact (r.drop _).take _
section
variable {X : Cx} {Tb : List Addr} {δ : Dl} {a b c : Expr} {pos p2 : Pos} {P : D → Prop}
/-- a[b:c], a list -/
theorem wpE_cutL (h : wpE X Tb a δ fun d => ∃ ds, d = .list ds ∧ wpE X Tb b δ fun n => ∃ i : Int, n = .int i ∧ wpE X Tb c δ fun m => ∃ j : Int, m = .int j ∧ P (.list (cutA ds (some i) (some j)))) : wpE X Tb (.Subscript a (.Slice (some b) (some c) none p2) pos) δ P := fun B O0 M Lk σ τ H I Q q =>
  sem_e (pe_slice sl_list pe_sem (po_some pe_sem) (po_some pe_sem)) (h B O0 M Lk σ τ H I _ fun x d1 H1 I1 h1 => by
    obtain ⟨ds, rfl, h1⟩ := h1
    refine h1 B O0 M Lk σ _ H1 I1 _ fun y d2 H2 I2 h2 => ?_
    obtain ⟨i, rfl, h2⟩ := h2
    have ey : y = .int i := by
      obtain ⟨O, J⟩ := id I2
      exact (J.tmp (y, .int i) List.mem_cons_self).int'
    refine ⟨i, ey, h2 B O0 M Lk σ _ H2 I2 _ fun z d3 H3 I3 h3 => ?_⟩
    obtain ⟨j, rfl, h3⟩ := h3
    obtain ⟨O, J⟩ := I3
    have ez : z = .int j := (J.tmp (z, .int j) List.mem_cons_self).int'
    have rx := J.tmp (x, .list ds) (List.mem_cons_of_mem _ (List.mem_cons_of_mem _ List.mem_cons_self))
    obtain ⟨ad, xs, rfl, ha, rxs⟩ := rx.list'
    refine ⟨j, ez, ad, xs, rfl, SqL.of (vis_some ha).2, fun p hp => ?_⟩
    exact q _ _ _ ⟨O, (J.drops fun p hp => List.mem_cons_of_mem _ (List.mem_cons_of_mem _ (List.mem_cons_of_mem _ hp))).newLst rxs.cut hp⟩ h3)
/-- a[b:], a list -/
theorem wpE_cutL1 (h : wpE X Tb a δ fun d => ∃ ds, d = .list ds ∧ wpE X Tb b δ fun n => ∃ i : Int, n = .int i ∧ P (.list (cutA ds (some i) none))) : wpE X Tb (.Subscript a (.Slice (some b) none none p2) pos) δ P := fun B O0 M Lk σ τ H I Q q =>
  sem_e (pe_slice sl_list pe_sem (po_some pe_sem) po_none) (h B O0 M Lk σ τ H I _ fun x d1 H1 I1 h1 => by
    obtain ⟨ds, rfl, h1⟩ := h1
    refine h1 B O0 M Lk σ _ H1 I1 _ fun y d2 H2 I2 h2 => ?_
    obtain ⟨k, rfl, h2⟩ := h2
    obtain ⟨O, J⟩ := I2
    obtain ⟨J0, rx, ry⟩ := J.pop2
    obtain ⟨ad, xs, rfl, ha, rxs⟩ := rx.list'
    exact ⟨k, ry.int', ad, xs, rfl, SqL.of (vis_some ha).2, fun p hp => q _ _ _ ⟨O, J0.newLst rxs.cut hp⟩ h2⟩)
end
end DL

set_option Elab.async false
set_option linter.all false
set_option maxRecDepth 100000
set_option maxHeartbeats 2000000
/-! TX0: texts: split, partition, str, int, f-strings, extend, the truth of a list. -/
namespace DL
open PySem PySem.Spec L2
section
variable {X : Cx} {Tb : List Addr} {δ : Dl} {a b c e o i : Expr} {es : List Expr} {pos pos' p apos : Pos} {P : D → Prop} {st : Stmt} {sts : List Stmt} {R R' : Rs}
theorem wpE_split (h : wpE X Tb o δ fun d1 => ∃ a : Str, d1 = .str a ∧ wpE X Tb e δ fun d2 => ∃ b : Str, d2 = .str b ∧ (b.length == 0) = false ∧ a.length + 2 ≤ sizeLine ∧ P (.list ((Txt.split a b).map .str)))
    (hs : starEach [e] X.env = [(false, eval e X.env)] := by rfl) (ha : attributeBase o "split" X.env (eval o X.env) = eval o X.env := by rfl) (hl : (apos.endLine == pos.line) = true := by rfl) : wpE X Tb (.Call (.Attribute o "split" apos) [e] [] pos) δ P := fun B O0 M Lk σ τ H I Q q =>
  sem_e (pe_split pe_sem pe_sem hs ha hl) (h B O0 M Lk σ τ H I _ fun v d1 H1 I1 h1 => by
    obtain ⟨a, rfl, h1⟩ := h1
    obtain ⟨O, K⟩ := id I1
    have ev : v = .str a := (K.tmp _ List.mem_cons_self).str'
    refine ⟨⟨a, ev⟩, h1 B O0 M Lk σ _ H1 I1 _ fun u d2 H2 I2 h2 => ?_⟩
    obtain ⟨b, rfl, hb, hz, h2⟩ := h2
    obtain ⟨O, J⟩ := I2
    obtain ⟨J0, _, ru⟩ := J.pop2
    exact ⟨a, b, ev, by have eu : u = .str b := ru.str'; rw [eu], hb, hz, fun p hp => q _ _ _ ⟨O, J0.newLst (rpStrs _) hp⟩ h2⟩)
theorem wpE_partition (h : wpE X Tb o δ fun d1 => ∃ a : Str, d1 = .str a ∧ wpE X Tb e δ fun d2 => ∃ b : Str, d2 = .str b ∧ (b.length == 0) = false ∧ a.length ≤ sizeLine ∧ P (.tuple [.str (Txt.partition a b).1, .str (Txt.partition a b).2.1, .str (Txt.partition a b).2.2]))
    (hs : starEach [e] X.env = [(false, eval e X.env)] := by rfl) (ha : attributeBase o "partition" X.env (eval o X.env) = eval o X.env := by rfl) (hl : (apos.endLine == pos.line) = true := by rfl) : wpE X Tb (.Call (.Attribute o "partition" apos) [e] [] pos) δ P := fun B O0 M Lk σ τ H I Q q =>
  sem_e (pe_partition pe_sem pe_sem hs ha hl) (h B O0 M Lk σ τ H I _ fun v d1 H1 I1 h1 => by
    obtain ⟨a, rfl, h1⟩ := h1
    obtain ⟨O, K⟩ := id I1
    have ev : v = .str a := (K.tmp _ List.mem_cons_self).str'
    refine ⟨⟨a, ev⟩, h1 B O0 M Lk σ _ H1 I1 _ fun u d2 H2 I2 h2 => ?_⟩
    obtain ⟨b, rfl, hb, hz, h2⟩ := h2
    obtain ⟨O, J⟩ := I2
    obtain ⟨J0, _, ru⟩ := J.pop2
    exact ⟨a, b, ev, by have eu : u = .str b := ru.str'; rw [eu], hb, hz, fun p hp => q _ _ _ ⟨O, J0.newTup (.cons (.str _) (.cons (.str _) (.cons (.str _) .nil))) hp⟩ h2⟩)
/-- int(text) -/
def intTR : List D → (D → Prop) → Prop
  | [.str a], P => ∃ n, PySem.intText? a = some n ∧ a.length ≤ 640 ∧ P (.int n)
  | _, _ => False
theorem ok_intT : OkC X Tb (fun xs H Q => ∃ a n, xs = [.str a] ∧ PySem.intText? a = some n ∧ a.length ≤ 640 ∧ Q (.int n) H) intTR := by
  intro B O0 M Lk O δ σ τ H vs ds P I r h Q q
  unfold intTR at h
  split at h
  · obtain ⟨v, rfl, rv⟩ := r.one'
    obtain ⟨n, h1, h2, h3⟩ := h
    exact ⟨_, n, by rw [rv.str'], h1, h2, q _ _ H ⟨O, I.push (.int n)⟩ h3⟩
  · exact h.elim
/-- str(int), str(text) -/
def strR : List D → (D → Prop) → Prop
  | [.int i], P => i.natAbs.log2 < 1920 ∧ P (.str (Str.ofString (toString i)))
  | [.str a], P => P (.str a)
  | _, _ => False
theorem call_strX : CallR X (.type "str") (fun xs H Q => (∃ i, xs = [.int i] ∧ i.natAbs.log2 < 1920 ∧ Q (.str (toString i)) H) ∨ ∃ a, xs = [.str a] ∧ Q (.str a) H) := CallR.or call_str_int SkE.call_str_str
theorem ok_str : OkC X Tb (fun xs H Q => (∃ i, xs = [.int i] ∧ i.natAbs.log2 < 1920 ∧ Q (.str (toString i)) H) ∨ ∃ a, xs = [.str a] ∧ Q (.str a) H) strR := by
  intro B O0 M Lk O δ σ τ H vs ds P I r h Q q
  unfold strR at h
  split at h
  · obtain ⟨v, rfl, rv⟩ := r.one'
    exact .inl ⟨_, by rw [rv.int'], h.1, q _ _ H ⟨O, I.push (.str _)⟩ h.2⟩
  · obtain ⟨v, rfl, rv⟩ := r.one'
    exact .inr ⟨_, by rw [rv.str'], q _ _ H ⟨O, I.push (.str _)⟩ h⟩
  · exact h.elim
theorem boot_str : bootBuiltins "str" = some (.type "str") := by decide +kernel
theorem boot_int : bootBuiltins "int" = some (.type "int") := by decide +kernel
/-- {e}, e a text or an int -/
def fmtR : D → (Str → Prop) → Prop
  | .int i, P => i.natAbs.log2 < 1920 ∧ P (Str.ofString (toString i))
  | .str y, P => y.length ≤ sizeLine ∧ P y
  | _, _ => False
theorem wpE_fmt (h : wpE X Tb e δ fun d => fmtR d fun y => P (.str y)) : wpE X Tb (.FormattedValue e (-1) none pos) δ P := fun B O0 M Lk σ τ H I Q q =>
  sem_e (pe_fmt pe_sem) (h B O0 M Lk σ τ H I _ fun v d H' J h1 => by
    obtain ⟨O, J⟩ := J
    obtain ⟨J0, r⟩ := J.pop1
    cases d with
    | int i => exact .inr ⟨i, r.int', h1.1, q _ _ H' ⟨O, J0.push (.str _)⟩ h1.2⟩
    | str y => exact .inl ⟨y, r.str', h1.1, q _ _ H' ⟨O, J0.push (.str _)⟩ h1.2⟩
    | _ => exact h1.elim)
/-- the parts of an f-string, one behind the other -/
def wpJ (X : Cx) (Tb : List Addr) : List Expr → Str → Dl → (D → Prop) → Prop
  | [], acc, _, P => P (.str acc)
  | e :: es, acc, δ, P => wpE X Tb e δ fun d => ∃ y : Str, d = .str y ∧ (acc ++ y).length ≤ sizeLine ∧ wpJ X Tb es (acc ++ y) δ P
theorem pj_sem : ∀ es : List Expr, PJ X es (es.map (semE X))
  | [] => .nil
  | _ :: es => .cons pe_sem (pj_sem es)
theorem js_of : ∀ {es : List Expr} {acc : Str} {B : Hp} {O0 M : List Addr} {Lk : Lks} {σ : L2.St} {τ : List (V × D)} {H : Hp} {Q : VK}, wpJ X Tb es acc δ P → At (GX X Tb) B O0 M Lk δ σ τ H →
    (∀ v d H', At (GX X Tb) B O0 M Lk δ σ ((v, d) :: τ) H' → P d → Q v H') → tJs (es.map (semE X)) acc σ H fun out H1 => Q (.str out) H1
  | [], acc, B, O0, M, Lk, σ, τ, H, Q, h, I, q => q _ _ H (I.pushS fun _ => .str acc) h
  | e :: es, acc, B, O0, M, Lk, σ, τ, H, Q, h, I, q => by
    refine h B O0 M Lk σ τ H I _ fun v d H' J h1 => ?_
    obtain ⟨y, rfl, hz, h1⟩ := h1
    obtain ⟨O, K⟩ := id J
    refine ⟨y, (K.tmp _ List.mem_cons_self).str', hz, ?_⟩
    exact js_of (es := es) h1 J.pop q
theorem wpE_joined {v1 v2 : Expr} {rest : List Expr} (h : wpJ X Tb (v1 :: v2 :: rest) Str.empty δ P) : wpE X Tb (.JoinedStr (v1 :: v2 :: rest) pos) δ P := fun B O0 M Lk σ τ H I Q q =>
  sem_e (pe_joined (pj_sem _)) (js_of h I q)
/-- xs.extend(e), the list the frame's own -/
theorem wpS_extend {x : Str} {px apos cpos : Pos} {ds : List D} (j : Nat) (hj : δ[j]? = some (some (.own (.lst ds)))) (h : wpE X Tb e δ fun d => ∃ es, d = .list es ∧ ds.length + es.length ≤ sizeLine ∧ R.nx (δ.set j (some (.own (.lst (ds ++ es)))))) (hN : X.N[j]? = some x := by rfl)
    (hv : Vis X.env.scope x := by first | exact Or.inl rfl | exact Or.inr (Or.inl rfl) | exact Or.inr (Or.inr rfl)) (h1 : (x == ("__debug__" : Str)) = false := by decide) (h2 : (x == ("__classdict__" : Str)) = false := by decide)
    (hs : starEach [e] X.env = (false, eval e X.env) :: starEach [] X.env := by rfl) {hpe : ∀ {ta : TE} {t : TA}, PE X (.Name x px) ta → PA X [e] t → PE X (.Call (.Attribute (.Name x px) "extend" apos) [e] [] cpos) (tBM X.K "list" rExtend ta t)}
    (hsw : swapsWith (.Call (.Attribute (.Name x px) "extend" apos) [e] [] cpos) none pos.line X.env = pure false := by rfl) :
    wpS X Tb (.Expr (.Call (.Attribute (.Name x px) "extend" apos) [e] [] cpos) pos) δ R := fun B O0 M Lk σ τ H I =>
  sem_s (ps_expr (hpe (pe_var hN hv h1 h2) (pa_cons pe_sem pa_nil hs)) hsw) (by
    obtain ⟨O, I⟩ := I
    obtain ⟨v, e0, p, rfl, hp, hb, hb2, xs, hx, r⟩ := I.slots j _ hj
    refine ⟨.ref p, e0, .inl ⟨rfl, _, .inl (.inl hx)⟩, h B O0 M Lk σ τ H ⟨O, I⟩ _ fun u d H' J q => ?_⟩
    obtain ⟨es, rfl, q1, q2⟩ := q
    obtain ⟨O', J⟩ := J
    obtain ⟨J0, ru⟩ := J.pop1
    obtain ⟨v1, e1, p1, e2, hp1, _, _, xs1, hx1, r1⟩ := J0.slots j _ hj
    have ev : V.ref p = v1 := Option.some.inj (Option.some.inj (e0.symm.trans e1))
    rw [e2] at ev
    obtain rfl : p = p1 := V.ref.inj ev
    obtain ⟨b, ys, rfl, hy, ry⟩ := ru.list'
    exact ⟨p, b, xs1, ys, rfl, rfl, hx1, (vis_some hy).2, by rw [r1.length, ry.length]; exact q1, _, ⟨O', J0.mutL hj e0 (r1.append ry)⟩, q2⟩)
/-- a list's truth -/
theorem wpT_tru {Pb : Bool → Prop} (h : wpE X Tb e δ fun d => ∃ ds, d = .list ds ∧ Pb (!ds.isEmpty)) (he : ∀ whole, isTrue e X.env whole = (do let v ← whole; standAt e.pos; holding [v] (truthy v)) := by intro _; rfl) : wpT X Tb e δ Pb := fun B O0 M Lk σ τ H I Q q =>
  sem_t (pt_truth pe_sem he) (h B O0 M Lk σ τ H I _ fun v d H' J h1 => by
    obtain ⟨ds, rfl, h1⟩ := h1
    obtain ⟨O, J⟩ := J
    obtain ⟨J0, r⟩ := J.pop1
    obtain ⟨a, xs, rfl, ha, rx⟩ := r.list'
    refine ⟨!ds.isEmpty, .inl ⟨xs, SqL.of (vis_some ha).2, ?_⟩, q _ H' ⟨O, J0⟩ h1⟩
    cases rx <;> rfl)
/-- the truth of a list of the frame's own -/
theorem wpT_truO {x : Str} {px : Pos} {ds : List D} {Pb : Bool → Prop} (j : Nat) (hj : δ[j]? = some (some (.own (.lst ds)))) (h : Pb (!ds.isEmpty)) (hN : X.N[j]? = some x := by rfl)
    (hv : Vis X.env.scope x := by first | exact Or.inl rfl | exact Or.inr (Or.inl rfl) | exact Or.inr (Or.inr rfl)) (h1 : (x == ("__debug__" : Str)) = false := by decide) (h2 : (x == ("__classdict__" : Str)) = false := by decide)
    (he : ∀ whole, isTrue (.Name x px) X.env whole = (do let v ← whole; standAt (Expr.Name x px).pos; holding [v] (truthy v)) := by intro _; rfl) : wpT X Tb (.Name x px) δ Pb := fun B O0 M Lk σ τ H I Q q =>
  sem_t (pt_truth (pe_var hN hv h1 h2) he) (by
    obtain ⟨O, I⟩ := I
    obtain ⟨v, e0, p, rfl, hp, hb, hb2, xs, hx, r⟩ := I.slots j _ hj
    refine ⟨.ref p, e0, !ds.isEmpty, .inl ⟨xs, .inl (.inl hx), ?_⟩, q _ H ⟨O, I⟩ h⟩
    cases r <;> rfl)
/-- a text's sign by its place -/
theorem r_strIx {z : Str} {i : Int} {c : Nat} {P : D → Prop} (hz : z.length ≤ sizeLine) (h : atI z.cps.toList i = some c) (q : P (.str ⟨#[c]⟩)) : ixR (.str z) (.int i) P := ⟨c, hz, h, q⟩
theorem nf_new {H H' : Hp} {p : Addr} {ob : HO} (h : Nf H H') (ho : ∀ od u, ob ≠ .frz od u := by exact fun _ _ z => nomatch z) : Nf H (upd H' p ob) := fun a od u e => by
  by_cases z : a = p
  · rw [z, upd_same] at e
    exact absurd (Option.some.inj e) (ho od u)
  · rw [upd_ne z] at e
    exact h a od u e
theorem nf_refl (H : Hp) : Nf H H := fun a od u e => by rw [e]; exact fun z => nomatch z
/-- the promise of a feed; lists may be made ahead of it -/
def spFeedG (K : PySem.W.Frag) : Sp := fun vs H Q _ => ∃ (a : Addr) (ns : List Int) (i : Nat), vs = [.ref a, .int (i : Nat)] ∧ SqL K H a (ns.map V.int) ∧ ∀ p x y Hm, Gr [] [] H Hm → Nf H Hm → Hm p = none → Q (.ref p) (upd Hm p (.lst [.int x, .int y]))
end
section
variable {X : Cx} {Tb : List Addr} {δ : Dl} {a b c e o i : Expr} {es eks : List Expr} {pos pos' p p1 p2 pF py : Pos} {P P' : D → Prop} {st : Stmt} {sts : List Stmt} {R R' : Rs}
/-- name = _law_feed(script, k) -/
theorem wpS_feedG {x xF y : Str} {px : Pos} {fF : Addr} {fdF : FuncData} {kF : Nat} {psF : List Str} {ns : List Int} (j jx : Nat) (FF : FnOk X.prog X.w X.K X.mg X.base CX0 kF fF fdF psF (spFeedG X.K)) (hrF : Room kF X.A) (hmF : X.mg xF = some (.ref fF)) (hkF : PySem.W.keepIn X.K (.ref fF) = true) (hbF : Binds X.K fdF psF [])
    (hj : δ[j]? = some (some (.scr ns))) (h : wpA X Tb eks δ fun ds => ∃ i : Nat, ds = [.int (i : Nat)] ∧ R.nx (δ.set jx (some (.own .feed)))) (hNd : X.N.Nodup) (hix : X.N[jx]? = some x := by rfl) (hx : Loc X.env.scope x := by first | exact Or.inl rfl | exact Or.inr rfl)
    (hN : X.N[j]? = some y := by rfl) (hv : Vis X.env.scope y := by first | exact Or.inl rfl | exact Or.inr (Or.inl rfl) | exact Or.inr (Or.inr rfl)) (h1 : (y == ("__debug__" : Str)) = false := by decide) (h2 : (y == ("__classdict__" : Str)) = false := by decide)
    (hgF : Gl X xF := by rfl) (hdF : (xF == ("__debug__" : Str)) = false := by decide)
    (heF : starEach (.Name y py :: eks) X.env = (false, eval (.Name y py) X.env) :: starEach eks X.env := by rfl) (hplF : (backTo p (starEach eks X.env)).any (·.1) = false := by rfl)
    (hs : swapsWith (.Call (.Name xF pF) (.Name y py :: eks) [] p) (some (.Name x px)) pos.line X.env = pure false := by rfl) (hf : X.fn x = true ∨ X.env.scope.names.lookup x = some .local := by first | exact .inl rfl | exact .inr rfl) :
    wpS X Tb (.Assign [.Name x px] (.Call (.Name xF pF) (.Name y py :: eks) [] p) pos) δ R := fun B O0 M Lk σ τ H I => by
  refine sem_s (ps_set hNd hix hx (pe_call FF hrF hgF hmF hkF hbF .nil (pass0 (X := X)) (pa_cons (pe_var hN hv h1 h2) pa_sem heF) hdF heF hplF) hs hf) ?_
  obtain ⟨O, J⟩ := id I
  obtain ⟨ad, e0, hS⟩ := J.scr hj
  refine ⟨.ref ad, e0, h B O0 M Lk σ τ H I _ fun ps H1 J1 h1 => ?_⟩
  obtain ⟨i, hds, h2⟩ := h1
  obtain ⟨O1, J1⟩ := J1
  obtain ⟨J1, r1⟩ := J1.popA
  rw [hds] at r1
  obtain ⟨a1, e1, hS1⟩ := J1.scr hj
  have ea : ad = a1 := V.ref.inj (Option.some.inj (Option.some.inj (e0.symm.trans e1)))
  subst ea
  have e2 : ps.map (·.1) = [V.int (i : Nat)] := by
    obtain ⟨v, ev, rv⟩ := r1.one'
    rw [ev, rv.int']
  refine ⟨ad, ns, i, ?_, hS1, fun q x z Hm g nf hq => ⟨_, ⟨_, (J1.grow g (fun _ z => nomatch z) (fun _ z => nomatch z) (fun _ z => nomatch z) (fun _ z => nomatch z) nf).ownF (j := jx) hq⟩, h2⟩⟩
  show (.ref ad :: ps.map (·.1)) ++ [] = _
  rw [e2]
  rfl
end
end DL

set_option Elab.async false
set_option linter.all false
set_option maxRecDepth 100000
set_option maxHeartbeats 2000000
/-! TX1: a def that hands back a new tuple of two new lists and two things more. -/
namespace DL
open PySem PySem.Spec L2
/-- what is made: a new tuple at t, of new lists at p and q, and of two things -/
structure Two (O0 : List Addr) (H H' : Hp) (t p q : Addr) (v3 v4 : V) (rs1 rs2 : List D) (d3 d4 : D) : Prop where
  ht : H t = none
  hp : H p = none
  hq : H q = none
  pq : p ≠ q
  tp : t ≠ p
  tq : t ≠ q
  tup : H' t = some (.tup [.ref p, .ref q, v3, v4])
  l1 : ∃ xs, H' p = some (.lst xs) ∧ RpA (vis O0 H') xs rs1
  l2 : ∃ xs, H' q = some (.lst xs) ∧ RpA (vis O0 H') xs rs2
  r3 : Rp (vis O0 H') v3 d3
  r4 : Rp (vis O0 H') v4 d4
def spM (Tb : List Addr) (n : Nat) (pre : List D → Prop) (post : List D → List D → List D → D → D → Prop) : Sp := fun vs H Q _ => ∃ (O0 : List Addr) (ds : List D),
  (∀ p ∈ O0, H p ≠ none) ∧ (∀ P ∈ Tb, GxR.TabG H P) ∧ RpA (vis O0 H) vs ds ∧ ds.length = n ∧ pre ds ∧
  ∀ t p q v3 v4 rs1 rs2 d3 d4 H', Gr [] [] H H' → Nf H H' → Two O0 H H' t p q v3 v4 rs1 rs2 d3 d4 → post ds rs1 rs2 d3 d4 → Q (.ref t) H'
theorem Two.rp {O0 : List Addr} {H H' : Hp} {t p q : Addr} {v3 v4 : V} {rs1 rs2 : List D} {d3 d4 : D} (h : Two O0 H H' t p q v3 v4 rs1 rs2 d3 d4) (ho : ∀ a ∈ O0, H a ≠ none) : Rp (vis O0 H') (.ref t) (.tuple [.list rs1, .list rs2, d3, d4]) := by
  obtain ⟨xs1, e1, r1⟩ := h.l1
  obtain ⟨xs2, e2, r2⟩ := h.l2
  exact .tup (by rw [vis_out fun z => ho t z h.ht]; exact h.tup) (.cons (.lst (by rw [vis_out fun z => ho p z h.hp]; exact e1) r1) (.cons (.lst (by rw [vis_out fun z => ho q z h.hq]; exact e2) r2) (.cons h.r3 (.cons h.r4 .nil))))
theorem spM_spD {P : Program} {w : World} {K : PySem.W.Frag} {mg : Str → Option Value} {base : Heap} {CX : CXT} {k n : Nat} {f : Addr} {fd : FuncData} {ps : List Str} {Tb : List Addr} {pre : List D → Prop} {post : List D → List D → List D → D → D → Prop} (F : FnOk P w K mg base CX k f fd ps (spM Tb n pre post)) :
    FnOk P w K mg base CX k f fd ps (spD Tb 0 n pre fun ds d => ∃ rs1 rs2 d3 d4, d = .tuple [.list rs1, .list rs2, d3, d4] ∧ post ds rs1 rs2 d3 d4) :=
  F.imp fun vs H Q E ⟨O0, M, ws, ds, h1, h2, h3, h4, h5, h6, h7, h8, h9, q⟩ => by
    obtain rfl : M = [] := List.eq_nil_of_length_eq_zero h2
    refine ⟨O0, ds, h4, h6, by rw [h1]; exact h7, h8, h9, fun t p q' v3 v4 rs1 rs2 d3 d4 H' g nf T hpost => ?_⟩
    exact q _ _ H' g nf (fun _ z => nomatch z) (T.rp h4) ⟨rs1, rs2, d3, d4, rfl, hpost⟩
/-- e makes a new tuple of two lists of the frame's own and of two things -/
def wpM (X : Cx) (Tb : List Addr) (e : Expr) (δ : Dl) (P : List D → List D → D → D → Prop) : Prop := ∀ B O0 M Lk σ τ H, At (GX X Tb) B O0 M Lk δ σ τ H → ∀ Q : VK,
  (∀ O t p q v3 v4 rs1 rs2 d3 d4 H', AtO (GX X Tb) B O0 M Lk O δ σ τ H' → Two O0 B H' t p q v3 v4 rs1 rs2 d3 d4 → P rs1 rs2 d3 d4 → Q (.ref t) H') → semE X e σ H Q
/-- statements one behind the other, none of which leaves the def -/
def wpL (X : Cx) (Tb : List Addr) : List Stmt → Dl → (Dl → Prop) → Prop
  | [], δ, K => K δ
  | s :: ss, δ, K => wpS X Tb s δ ⟨fun δ' => wpL X Tb ss δ' K, fun _ => False, fun _ => False, fun _ => False⟩
theorem wpL_cons {X : Cx} {Tb : List Addr} {s : Stmt} {ss : List Stmt} {δ : Dl} {K : Dl → Prop} (h : wpS X Tb s δ ⟨fun δ' => wpL X Tb ss δ' K, fun _ => False, fun _ => False, fun _ => False⟩) : wpL X Tb (s :: ss) δ K := h
theorem run_L {X : Cx} {Tb : List Addr} {last : Stmt} {B : Hp} {O0 M : List Addr} {Lk : Lks} {τ : List (V × D)} {D' : Ends} {K : Dl → Prop} : ∀ {ss : List Stmt} {δ : Dl} {σ : L2.St} {H : Hp}, wpL X Tb ss δ K → At (GX X Tb) B O0 M Lk δ σ τ H →
    (∀ δ' σ' H', At (GX X Tb) B O0 M Lk δ' σ' τ H' → K δ' → semSs X [last] D' σ' H') → semSs X (ss ++ [last]) D' σ H
  | [], δ, σ, H, h, I, k => k δ σ H I h
  | s :: ss, δ, σ, H, h, I, k => by
    refine sem_ss (pss_cons ps_sem pss_sem) ?_
    refine semS_le ⟨fun σ' H' h' => ?_, fun v H' h' => ?_, fun _ _ h' => ?_, fun _ _ h' => ?_⟩ (h B O0 M Lk σ τ H I)
    · obtain ⟨δ', J, h'⟩ := h'
      exact run_L h' J k
    · obtain ⟨_, _, h'⟩ := h'
      exact h'.elim
    · obtain ⟨_, _, h'⟩ := h'
      exact h'.elim
    · obtain ⟨_, _, h'⟩ := h'
      exact h'.elim
theorem fn_okM {Pg : Program} {w : World} {K : PySem.W.Frag} {mg : Str → Option Value} {base : Heap} {x qual : Str} {st : Stmt} {init : List Stmt} {e : Expr} {rp : Pos} {f c : Addr} {fd : FuncData} {N ps : List Str} {k n : Nat} {Tb : List Addr} {pre : List D → Prop} {post : List D → List D → List D → D → D → Prop} (F : FunC K x qual st f c fd) (S : FnScope N ps (defScope st)) (hn : ps.length = n) (hd2 : defBody st = init ++ [.Return (some e) rp])
    (hbody : ∀ (A : Around) (outer : List Env) (s : Shared) (H : Hp) (E : XK) (ds : List D), Room k (A.deeper (PyProof.Rows.envOfC qual (defScope st) s.heap.objs.size f (.ref c))) → ds.length = n → pre ds →
      wpL (cxOf CX0 Pg w K mg base N qual (defScope st) f (.ref c) A outer s H E).nox Tb init (startD 0 ds N) fun δ' => wpM (cxOf CX0 Pg w K mg base N qual (defScope st) f (.ref c) A outer s H E).nox Tb e δ' (post ds)) : FnOk Pg w K mg base CX0 (k + 1) f fd ps (spM Tb n pre post) := by
  obtain ⟨oc, od, kV, doc, pm, an, ct, osl, rfl, lk, hcd⟩ := F.ex
  have hpl : ps.length ≤ N.length := by have := congrArg List.length S.pre; rw [List.length_take] at this; omega
  refine fn_of lk hcd S (fun vs H Q E h => ?_) fun A outer s H vs Q E hr hsp => ?_
  · obtain ⟨O0, ds, _, _, r, hd, _⟩ := h
    rw [r.length, hd, hn]
  · obtain ⟨O0, ds, h2, h4, r, hd, hp, q⟩ := hsp
    have hb := hbody A outer s H E ds hr hd hp
    have I := at_start (G := ⟨K, Tb⟩) (M := []) (N := N) (Nat.zero_le 1) (fun _ z => nomatch z) h2 (fun _ z => nomatch z) h4 r (by show 0 + _ ≤ _; omega)
    rw [hd2]
    refine ⟨_, PSs.nox pss_sem, ?_⟩
    refine run_L (B := H) (O0 := O0) (M := []) (Lk := ([], [])) (τ := []) hb I fun δ' σ' H' J hK => ?_
    refine sem_ss (pss_one (ps_ret pe_sem)) ?_
    refine hK H O0 [] ([], []) σ' [] H' J _ fun O t p q' v3 v4 rs1 rs2 d3 d4 H2 J2 T hpost => ?_
    exact q t p q' v3 v4 rs1 rs2 d3 d4 H2 J2.gr (fun a od u e => (J2.nof a od u e).resolve_right (fun z => nomatch z)) T hpost
/-- (x, y, e3, e4), where x and y are two lists of the frame's own -/
theorem wpM_tup {X : Cx} {Tb : List Addr} {δ : Dl} {x y : Str} {px py : Pos} {e3 e4 : Expr} {kk : Nat} {pos : Pos} {ds1 ds2 : List D} {P : List D → List D → D → D → Prop} (i j : Nat) (hij : i ≠ j) (hi : δ[i]? = some (some (.own (.lst ds1)))) (hj : δ[j]? = some (some (.own (.lst ds2))))
    (h' : wpA X Tb [e3, e4] δ fun ds => ∃ d3 d4, ds = [d3, d4] ∧ P ds1 ds2 d3 d4)
    (hNi : X.N[i]? = some x := by rfl) (hNj : X.N[j]? = some y := by rfl) (hvi : Vis X.env.scope x := by first | exact Or.inl rfl | exact Or.inr (Or.inl rfl) | exact Or.inr (Or.inr rfl)) (hvj : Vis X.env.scope y := by first | exact Or.inl rfl | exact Or.inr (Or.inl rfl) | exact Or.inr (Or.inr rfl))
    (h1 : (x == ("__debug__" : Str)) = false := by decide) (h2 : (x == ("__classdict__" : Str)) = false := by decide) (h3 : (y == ("__debug__" : Str)) = false := by decide) (h4 : (y == ("__classdict__" : Str)) = false := by decide)
    (s1 : starEach (.Name x px :: [.Name y py, e3, e4]) X.env = (false, eval (.Name x px) X.env) :: starEach [.Name y py, e3, e4] X.env := by rfl) (s2 : starEach (.Name y py :: [e3, e4]) X.env = (false, eval (.Name y py) X.env) :: starEach [e3, e4] X.env := by rfl) :
    wpM X Tb (.Tuple [.Name x px, .Name y py, e3, e4] kk pos) δ P := fun B O0 M Lk σ τ H I Q q => by
  refine sem_e (pe_tup (pa_cons (pe_var hNi hvi h1 h2) (pa_cons (pe_var hNj hvj h3 h4) pa_sem s2) s1)) ?_
  obtain ⟨O, I0⟩ := id I
  obtain ⟨v1, e1, p, rfl, hp, _, hb1, xs1, hx1, r1⟩ := I0.slots i _ hi
  obtain ⟨v2, e2, p2, rfl, hp2, _, hb2, xs2, hx2, r2⟩ := I0.slots j _ hj
  refine ⟨.ref p, e1, .ref p2, e2, h' B O0 M Lk σ τ H I _ fun ps H' J hq => ?_⟩
  obtain ⟨d3, d4, ed, hP⟩ := hq
  obtain ⟨O', J⟩ := J
  obtain ⟨J0, rr⟩ := J.popA
  rw [ed] at rr
  obtain ⟨v3, v4, ev, r3, r4⟩ := rr.two'
  rw [ev]
  refine ⟨(by show 4 ≤ sizeLine; decide), fun t ht => ?_⟩
  obtain ⟨w1, f1, q1, g1, hq1, _, hc1, ys1, hy1, t1⟩ := J0.slots i _ hi
  have e5 := V.ref.inj (Option.some.inj (Option.some.inj ((e1.symm.trans f1).trans (by rw [g1]))))
  subst e5
  obtain ⟨w2, f2, q2, g2, hq2, _, hc2, ys2, hy2, t2⟩ := J0.slots j _ hj
  have e6 := V.ref.inj (Option.some.inj (Option.some.inj ((e2.symm.trans f2).trans (by rw [g2]))))
  subst e6
  have hBp : B p = none := hc1.elim (fun z => nomatch z) id
  have hBq : B p2 = none := hc2.elim (fun z => nomatch z) id
  have hpq : p ≠ p2 := fun z => hij (J0.sep i j _ _ p hi hj e1 (by rw [z]; exact e2))
  have ntp : t ≠ p := fun z => by rw [z, hy1] at ht; cases ht
  have ntq : t ≠ p2 := fun z => by rw [z, hy2] at ht; cases ht
  obtain ⟨J1, hn⟩ := J0.alloc (o := .tup [.ref p, .ref p2, v3, v4]) ht
  have hBt : B t = none := by
    cases e : B t with
    | none => rfl
    | some u =>
      have hM : t ∉ M := fun z => hn (J0.sub0 _ (J0.subM _ z))
      rcases J0.gr t u hM e with h | ⟨_, _, _, h, _⟩ | ⟨_, _, h⟩ <;> rw [ht] at h <;> cases h
  have lv : Le (vis O' H') (vis O0 (upd H' t (.tup [.ref p, .ref p2, v3, v4]))) := (le_new (O := O') ht).trans (vis_le fun a ha => J0.sub0 a ha)
  exact q _ t p p2 v3 v4 ds1 ds2 d3 d4 _ J1 ⟨hBt, hBp, hBq, hpq, ntp, ntq, upd_same, ⟨ys1, by rw [upd_ne (Ne.symm ntp)]; exact hy1, t1.mono lv⟩, ⟨ys2, by rw [upd_ne (Ne.symm ntq)]; exact hy2, t2.mono lv⟩, r3.mono lv, r4.mono lv⟩ hP
end DL

set_option Elab.async false
set_option linter.all false
set_option maxRecDepth 100000
set_option maxHeartbeats 2000000
/-! TX2: defs that write repr: their promise holds where no repr is under way. -/
namespace DL
open PySem PySem.Spec L2 PyProof.Rows
/-- a promise of a def where no repr is under way -/
structure FnG (Pg : Program) (w : World) (K : PySem.W.Frag) (mg : Str → Option Value) (base : Heap) (k : Nat) (fa : Addr) (fd : FuncData) (ps : List Str) (sp : Sp) : Prop where
  many : ∀ vs H Q E, sp vs H Q E → vs.length = ps.length
  goes : ∀ (A : Around) (outer : List Env) (s : Shared) (H : Hp) (args : Args) (us : List Value) (vs : List V) (Q : VK) (E : XK), Room k A → A.guards = some [] → H sysModules = none → s.heap.get? sysModules ≠ none →
    Env0 Pg w K mg base A outer s H → BindsTo s fd args (ps.zip us) → Vals vs us → sp vs H Q E → codeAny (model Pg w) A (.call (.ref fa) args) (CR CX0 outer Pg w H s Q E) s
theorem fnG_of {Pg : Program} {w : World} {K : PySem.W.Frag} {mg : Str → Option Value} {base : Heap} {k : Nat} {fa : Addr} {nm ql : Str} {pa : Arguments} {bd : List Stmt} {sc : Scope} {d1 d2 d3 d4 cd d5 d6 : Value} {a1 a2 : Option Addr}
    {osl : Array (Option Value)} {N ps : List Str} {sp : Sp} (lk : K.lookup fa = some ⟨d6, a2, .func (PySem.W.fnOf nm ql pa bd sc d1 d2 d3 d4 a1 cd d5), osl⟩) (hcd : PySem.W.codeIn K cd ql = true) (S : FnScope N ps sc) (len : ∀ vs H Q E, sp vs H Q E → vs.length = ps.length)
    (hb : ∀ (A : Around) (outer : List Env) (s : Shared) (H : Hp) (vs : List V) (Q : VK) (E : XK), Room k (A.deeper (envOfC ql sc s.heap.objs.size fa cd)) → A.guards = some [] → H sysModules = none → s.heap.get? sysModules ≠ none → sp vs H Q E →
      ∃ t, PSs (cxOf CX0 Pg w K mg base N ql sc fa cd A outer s H E) bd t ∧ t { nx := fun _ H' => Q .non H', rt := Q } (start N vs) H) :
    FnG Pg w K mg base (k + 1) fa (PySem.W.fnOf nm ql pa bd sc d1 d2 d3 d4 a1 cd d5) ps sp := by
  refine ⟨len, fun A outer s H args us vs Q E hr hg hm hs e0 hbd r hsp => ?_⟩
  have ln := len _ _ _ _ hsp
  have kin : K.In s.heap := e0.mod.kin.keeps fun b ob e => (e0.bs b ob e).1
  have nolim : s.heap.NoLimit := e0.mod.nolimit.keeps fun b ob e => (e0.bs b ob e).1
  have kinds : ∀ y ∈ ps.zip us, sc.names.lookup y.1 = some .local ∨ (sc.names.lookup y.1 = some .cell ∧ ((cellsFrom (s.heap.objs.size + 1) sc.names []).lookup y.1).isSome = true) := by
    rintro ⟨n, v⟩ hy
    exact (S.par n (List.of_mem_zip hy).1).imp id fun q => ⟨q, PySem.W.cellsFrom_some _ _ _ (.inl q)⟩
  refine codeAny_call_function hr.depth (kin _ _ lk) rfl S.co S.gen rfl (PySem.W.codeRec_of kin hcd) (hbd _ _ _ _ ?_)
  refine wpAny_newFunctionEnv_cells S.kind kinds fun en he s1 x => ?_
  subst he
  refine ⟨nolim.keeps x.toInCall.keep, codeAny_func ?_⟩
  obtain ⟨t, ht, hq⟩ := hb A outer s H vs Q E (hr.deeper _) hg hm hs hsp
  have I : Inv (cxOf CX0 Pg w K mg base N ql sc fa cd A outer s H E) [] (start N vs) H s1 := inv_start S hr.hd e0 ln r x
  refine wpAny_mono (ht.run [] s1 (start N vs) H _ I hq) (fun fl z hz => ?_) fun e z hz => hz
  have out : ∀ {σ' : L2.St} {H' : Hp} {v : V} {u : Value}, Inv (cxOf CX0 Pg w K mg base N ql sc fa cd A outer s H E) [] σ' H' z → RelV v u → Q v H' → CE outer Pg w H s Q u z := by
    intro σ' H' v u J rv q
    exact ⟨v, H', J.os, J.bare, J.base, J.hok, rv, q⟩
  cases fl with
  | ret u => obtain ⟨v, σ', H', J, rv, q⟩ := hz; exact out J rv q
  | next => obtain ⟨σ', H', J, q⟩ := hz; exact out (v := V.non) (u := Value.none) J rfl q
  | brk => obtain ⟨_, _, _, q⟩ := hz; cases q
  | cont => obtain ⟨_, _, _, q⟩ := hz; cases q
/-- a frame in which no repr is under way -/
structure Qt (X : Cx) : Prop where
  gd : X.A.guards = some []
  h0 : X.H_0 sysModules = none
  h1 : X.s_0.heap.get? sysModules ≠ none
  ex : X.ex = []
section
variable {X : Cx} {x : Str} {p pos : Pos} {e : Expr} {es : List Expr} {t : TA} {fA : Addr} {fd : FuncData} {k : Nat} {ps : List Str} {sp : Sp} {E : XK}
theorem Qt.now (q : Qt X) {pins : List (Addr × Obj)} {σ : L2.St} {H : Hp} {s : Shared} (I : Inv X pins σ H s) : H sysModules = none ∧ s.heap.get? sysModules ≠ none := by
  cases e : X.s_0.heap.get? sysModules with
  | none => exact absurd e q.h1
  | some o =>
    refine ⟨I.base.free _ _ e q.h0 (by rw [q.ex]; simp), fun z => ?_⟩
    obtain ⟨o', e'⟩ := I.base.there _ _ e (by rw [q.ex]; simp)
    rw [z] at e'
    cases e'
theorem pe_callG (F : FnG X.prog X.w X.K X.mg X.base k fA fd ps sp) (q : Qt X) (hr : Room k X.A) (hg : Gl X x) (hm : X.mg x = some (.ref fA)) (hk : PySem.W.keepIn X.K (.ref fA) = true) (hb : Binds X.K fd ps []) (hx : Passes CX0 X E)
    (ha : PA X (e :: es) t) (hdb : (x == ("__debug__" : Str)) = false) (he : starEach (e :: es) X.env = (false, eval e X.env) :: starEach es X.env) (hpl : (backTo pos (starEach es X.env)).any (·.1) = false) :
    PE X (.Call (.Name x p) (e :: es) [] pos) (tCall sp [] E t) := by
  refine ⟨fun pins s σ H Q I h => wpAny_Call_Name_kw (ld_glob I hg hm ?_ hdb)⟩
  refine PySem.W.callWith_K (h₀ := X.base) I.ok.mod.kin hk (thn (ha.run pos pins s σ H _ I h) fun us s1 hq => ?_) he hpl
  obtain ⟨vs, H1, I1, r, h1⟩ := hq
  refine ⟨I1.kIn, ?_⟩
  rw [List.append_nil] at h1
  have hl : us.length = ps.length := r.length.symm.trans (F.many _ _ _ _ h1)
  obtain ⟨n1, n2⟩ := q.now I1
  have hbb := hb s1 us I1.kIn (by rw [List.append_nil]; exact hl)
  rw [List.append_nil] at hbb
  show wpAny _ _ (call (.ref fA) us) _ _ _
  refine wpAny_call (codeAny_mono (F.goes X.A X.stack s1 H1 ⟨us, []⟩ us vs Q E hr q.gd n1 n2 I1.env0 hbb r h1) fun r' s' hq => ?_)
  cases r' with
  | error e => exact hx pins σ H1 s1 e s' I1 hq
  | ok fl =>
    cases fl with
    | ret u => exact I1.after hq
    | next => cases hq
    | brk => cases hq
    | cont => cases hq
end
section
variable {X : Cx} {Tb : List Addr} {δ : Dl} {e : Expr} {es : List Expr} {pos p : Pos} {P : D → Prop} {x : Str} {fA : Addr} {fd : FuncData} {k n : Nat} {ps : List Str} {pre : List D → Prop} {post : List D → D → Prop}
theorem wpE_callG (F : FnG X.prog X.w X.K X.mg X.base k fA fd ps (spD Tb 0 n pre post)) (qt : Qt X) (hr : Room k X.A) (hm : X.mg x = some (.ref fA)) (hk : PySem.W.keepIn X.K (.ref fA) = true) (hb : Binds X.K fd ps [])
    (h : wpA X Tb (e :: es) δ fun ds => ds.length = n ∧ pre ds ∧ ∀ d, post ds d → P d) (hg : Gl X x := by rfl) (hdb : (x == ("__debug__" : Str)) = false := by decide) (he : starEach (e :: es) X.env = (false, eval e X.env) :: starEach es X.env := by rfl) (hpl : (backTo pos (starEach es X.env)).any (·.1) = false := by rfl) :
    wpE X Tb (.Call (.Name x p) (e :: es) [] pos) δ P := fun B O0 M Lk σ τ H I Q q =>
  sem_e (pe_callG F qt hr hg hm hk hb (pass0 (X := X)) pa_sem hdb he hpl) (h B O0 M Lk σ τ H I _ fun ps H1 J h1 => by
    obtain ⟨O, J⟩ := J
    obtain ⟨J0, r⟩ := J.popA
    obtain ⟨h1, h2, h3⟩ := h1
    refine ⟨O, [], ps.map (·.1), ps.map (·.2), List.append_nil _, rfl, (fun _ z => nomatch z), J.live, (fun _ z => nomatch z), J.tabs, r, h1, h2, fun v d H' g nf _ rv hp => ?_⟩
    exact q v d H' ⟨O, (J0.grow g (fun _ z => nomatch z) (fun _ z => nomatch z) (fun _ z => nomatch z) (fun _ z => nomatch z) nf).push rv⟩ (h3 d hp))
theorem call_reprQ (q : Qt X) (hu : X.A.units + 80 < cLine) : CallR X (.builtin "repr") rReprD := call_reprD q.gd hu q.h0 q.h1 q.ex
/-- a def that writes repr, by its body -/
theorem fn_okG {Pg : Program} {w : World} {K : PySem.W.Frag} {mg : Str → Option Value} {base : Heap} {x qual : Str} {st : Stmt} {f c : Addr} {fd : FuncData} {N ps : List Str} {k n : Nat} {Tb : List Addr} {pre : List D → Prop} {post : List D → D → Prop} (F : FunC K x qual st f c fd) (S : FnScope N ps (defScope st)) (hn : ps.length = n)
    (hbody : ∀ (A : Around) (outer : List Env) (s : Shared) (H : Hp) (E : XK) (ds : List D), Room k (A.deeper (PyProof.Rows.envOfC qual (defScope st) s.heap.objs.size f (.ref c))) → Qt (cxOf CX0 Pg w K mg base N qual (defScope st) f (.ref c) A outer s H E).nox → ds.length = n → pre ds →
      wpSs (cxOf CX0 Pg w K mg base N qual (defScope st) f (.ref c) A outer s H E).nox Tb (defBody st) (startD 0 ds N) { nx := fun _ => post ds .none, rt := post ds }) : FnG Pg w K mg base (k + 1) f fd ps (spD Tb 0 n pre post) := by
  obtain ⟨oc, od, kV, doc, pm, an, ct, osl, rfl, lk, hcd⟩ := F.ex
  have hpl : ps.length ≤ N.length := by have := congrArg List.length S.pre; rw [List.length_take] at this; omega
  refine fnG_of lk hcd S (fun vs H Q E h => ?_) fun A outer s H vs Q E hr hg hm hs hsp => ?_
  · obtain ⟨O0, M, ws, ds, rfl, hMl, _, _, _, _, r, hd, _⟩ := h
    rw [List.length_append, List.length_map, r.length, hMl, hd, hn, Nat.zero_add]
  · obtain ⟨O0, M, ws, ds, rfl, hMl, h1, h2, h3, h4, r, hd, hp, q⟩ := hsp
    obtain rfl : M = [] := List.eq_nil_of_length_eq_zero hMl
    have hb := hbody A outer s H E ds hr ⟨hg, hm, hs, rfl⟩ hd hp
    have I := at_start (G := ⟨K, Tb⟩) (M := []) (N := N) (Nat.zero_le 1) h1 h2 h3 h4 r (by show 0 + _ ≤ _; omega)
    refine ⟨_, PSs.nox pss_sem, semSs_le ⟨fun σ' H' h => ?_, fun v H' h => ?_, fun _ _ h => ?_, fun _ _ h => ?_⟩ (hb H O0 [] ([], []) _ [] H I)⟩
    · obtain ⟨δ', J, h⟩ := h
      obtain ⟨O, J⟩ := J
      exact q _ _ H' J.gr (fun a od u e => (J.nof a od u e).resolve_right (fun z => nomatch z)) J.feeds .non h
    · obtain ⟨d, J, h⟩ := h
      exact q v d H' J.gr (fun a od u e => (J.nof a od u e).resolve_right (fun z => nomatch z)) J.feeds J.rp h
    · obtain ⟨_, _, h⟩ := h
      exact h.elim
    · obtain ⟨_, _, h⟩ := h
      exact h.elim
end
end DL

set_option Elab.async false
set_option linter.all false
set_option maxRecDepth 100000
set_option maxHeartbeats 2000000
/-! TX3: what was handed back is changed by the caller, who forgets it. -/
namespace DL
open PySem PySem.Spec L2
theorem AtO.root {G : Glo} {B : Hp} {O0 M O : List Addr} {Lk : Lks} {δ : Dl} {σ : L2.St} {τ : List (V × D)} {H : Hp} (I : AtO G B O0 M Lk O δ σ τ H) (nb : ∀ (i : Nat) (o : OD), δ[i]? ≠ some (some (Sl.own o))) : AtO G H O [] ([], []) O δ σ τ H := by
  refine ⟨fun _ h => h, (fun _ z => nomatch z), I.live, fun p hp => .inl hp, I.live, Gr.refl _ _ _, (fun _ z => nomatch z), (fun _ z => nomatch z), (fun _ z => nomatch z), I.tabs, I.tmp, I.len, fun i sl e => ?_, fun i k o o' p e1 e2 e3 e4 => absurd e1 (nb i o), (fun _ z => nomatch z), fun a od u e => .inl (by rw [e]; exact fun z => nomatch z)⟩
  obtain ⟨v, h1, h2⟩ := I.slots i sl e
  refine ⟨v, h1, ?_⟩
  cases sl with
  | d d => exact h2
  | own o => exact absurd e (nb i o)
  | scr ns => exact h2
theorem gr_same {H H' : Hp} {a : Addr} {o : HO} (g : Gr [] [] H H') (h : H a = some o) (nt : ∀ ps, o ≠ .tbl ps) : H' a = some o := by
  rcases g a o (fun z => nomatch z) h with h | ⟨ps, _, e, _⟩ | ⟨z, _⟩
  · exact h
  · exact absurd e (nt ps)
  · cases z
section
variable {X : Cx} {Tb : List Addr} {δ : Dl} {c e : Expr} {es : List Expr} {pos p2 p3 p4 p5 p6 p7 p8 p9 q1 q2 q3 q4 q5 q6 q7 : Pos} {sts rest : List Stmt} {R : Rs} {k1 k2 k3 : Nat}
theorem wpSs_scrap {x xF : Str} {px pF p : Pos} {fA : Addr} {fd : FuncData} {k n : Nat} {ps : List Str} {pre : List D → Prop} {post : List D → List D → List D → D → D → Prop} (j : Nat) (F : FnOk X.prog X.w X.K X.mg X.base CX0 k fA fd ps (spM Tb n pre post)) (hr : Room k X.A) (hm : X.mg xF = some (.ref fA)) (hk : PySem.W.keepIn X.K (.ref fA) = true) (hb : Binds X.K fd ps [])
    (nb : ∀ (i : Nat) (o : OD), δ[i]? ≠ some (some (Sl.own o))) (hjn : δ[j]? = some none)
    (h : wpA X Tb (e :: es) δ fun ds => ds.length = n ∧ pre ds ∧ ∀ rs1 rs2 d3 d4, post ds rs1 rs2 d3 d4 → rs1.length < sizeLine ∧ wpT X Tb c (δ.set j (some (.d (.tuple [.list rs1, .list rs2, d3, d4])))) (fun b => b = false) ∧ wpSs X Tb rest δ R)
    (hN : X.N.Nodup) (hi : X.N[j]? = some x := by rfl) (hx : Loc X.env.scope x := by first | exact Or.inl rfl | exact Or.inr rfl) (hv : Vis X.env.scope x := by first | exact Or.inl rfl | exact Or.inr (Or.inl rfl) | exact Or.inr (Or.inr rfl)) (h1 : (x == ("__debug__" : Str)) = false := by decide) (h2 : (x == ("__classdict__" : Str)) = false := by decide)
    (hg : Gl X xF := by rfl) (hdb : (xF == ("__debug__" : Str)) = false := by decide) (he : starEach (e :: es) X.env = (false, eval e X.env) :: starEach es X.env := by rfl) (hpl : (backTo p (starEach es X.env)).any (·.1) = false := by rfl)
    (hs : swapsWith (.Call (.Name xF pF) (e :: es) [] p) (some (.Name x px)) pos.line X.env = pure false := by rfl) (hf : X.fn x = true ∨ X.env.scope.names.lookup x = some .local := by first | exact .inl rfl | exact .inr rfl)
    {hpe : ∀ {ta : TE} {t : TA}, PE X (.Subscript (.Name x p2) (.Constant (.int 0) k1 p3) p4) ta → PA X [.Constant .none k2 p5] t → PE X (.Call (.Attribute (.Subscript (.Name x p2) (.Constant (.int 0) k1 p3) p4) "append" p6) [.Constant .none k2 p5] [] p7) (tBM X.K "list" rAppend ta t)}
    {hpe0 : ∀ {ta : TE}, PE X (.Subscript (.Name x q2) (.Constant (.int 1) k3 q3) q4) ta → PE X (.Call (.Attribute (.Subscript (.Name x q2) (.Constant (.int 1) k3 q3) q4) "clear" q6) [] [] q7) (tBM0 X.K "list" rClear ta)}
    (hsw : swapsWith (.Call (.Attribute (.Subscript (.Name x p2) (.Constant (.int 0) k1 p3) p4) "append" p6) [.Constant .none k2 p5] [] p7) none p8.line X.env = pure false := by rfl)
    (hsw0 : swapsWith (.Call (.Attribute (.Subscript (.Name x q2) (.Constant (.int 1) k3 q3) q4) "clear" q6) [] [] q7) none q1.line X.env = pure false := by rfl)
    (hst : starEach [(.Constant .none k2 p5 : Expr)] X.env = (false, eval (.Constant .none k2 p5) X.env) :: starEach [] X.env := by rfl) :
    wpSs X Tb (.Assign [.Name x px] (.Call (.Name xF pF) (e :: es) [] p) pos :: .If c sts [] p9 :: .Expr (.Call (.Attribute (.Subscript (.Name x p2) (.Constant (.int 0) k1 p3) p4) "append" p6) [.Constant .none k2 p5] [] p7) p8
      :: .Expr (.Call (.Attribute (.Subscript (.Name x q2) (.Constant (.int 1) k3 q3) q4) "clear" q6) [] [] q7) q1 :: rest) δ R := fun B O0 M Lk σ τ H I => by
  have hlt : j < δ.length := (List.getElem?_eq_some_iff.mp hjn).1
  refine sem_ss (pss_cons (ps_set hN hi hx (pe_call F hr hg hm hk hb .nil (pass0 (X := X)) pa_sem hdb he hpl) hs hf) (pss_cons (ps_if pt_sem pss_sem pss_nil) (pss_cons (ps_expr (hpe (pe_ix ix_tup (pe_var hi hv h1 h2) pe_int (fun _ _ => rfl)) (pa_cons pe_non pa_nil hst)) hsw) (pss_cons (ps_expr (hpe0 (pe_ix ix_tup (pe_var hi hv h1 h2) pe_int (fun _ _ => rfl))) hsw0) pss_sem)))) ?_
  refine h B O0 M Lk σ τ H I _ fun as H1 J hq => ?_
  obtain ⟨O, J⟩ := J
  obtain ⟨J0, r⟩ := J.popA
  obtain ⟨hl, hp, hq⟩ := hq
  refine ⟨O, as.map (·.2), J0.live, J0.tabs, by rw [List.append_nil]; exact r, hl, hp, fun t a b v3 v4 rs1 rs2 d3 d4 H2 g nf T hpost => ?_⟩
  obtain ⟨hlen, hT, hrest⟩ := hq rs1 rs2 d3 d4 hpost
  have J1 := J0.grow g (fun _ z => nomatch z) (fun _ z => nomatch z) (fun _ z => nomatch z) (fun _ z => nomatch z) nf
  have J2 := J1.set (j := j) (T.rp J0.live)
  have nb2 : ∀ (i : Nat) (o : OD), (δ.set j (some (.d (.tuple [.list rs1, .list rs2, d3, d4]))))[i]? ≠ some (some (Sl.own o)) := fun i o z => by
    by_cases hij : j = i
    · subst hij
      rw [List.getElem?_set_self hlt] at z
      cases z
    · rw [List.getElem?_set_ne hij] at z
      exact nb i o z
  have hσ : (σ.set j (some (.ref t)))[j]? = some (some (V.ref t)) := List.getElem?_set_self (by rw [← J0.len]; exact hlt)
  refine hT H2 O [] ([], []) _ τ H2 ⟨O, J2.root nb2⟩ _ fun bb H3 K hbb => ?_
  subst hbb
  obtain ⟨O3, K⟩ := K
  have g3 : Gr [] [] H2 H3 := K.gr
  have n3 : Nf H2 H3 := fun a od u e => (K.nof a od u e).resolve_right (fun z => nomatch z)
  obtain ⟨xs1, e1, r1⟩ := T.l1
  obtain ⟨xs2, e2, r2⟩ := T.l2
  have ht3 := gr_same g3 T.tup (fun _ z => nomatch z)
  have hp3 := gr_same g3 e1 (fun _ z => nomatch z)
  have hq3 := gr_same g3 e2 (fun _ z => nomatch z)
  have l3 : Le (vis O H2) (vis O H3) := g3.le (fun _ z => nomatch z)
  refine ⟨.ref t, hσ, t, [.ref a, .ref b, v3, v4], 0, .ref a, rfl, rfl, SqT.of ht3, rfl, .inl ⟨rfl, _, SqL.of hp3⟩, a, xs1, .non, rfl, rfl, hp3, by rw [r1.length]; exact hlen, ?_⟩
  refine ⟨.ref t, hσ, t, [.ref a, .ref b, v3, v4], 1, .ref b, rfl, rfl, SqT.of (by rw [upd_ne T.tp]; exact ht3), rfl, .inl ⟨rfl, _, SqL.of (by rw [upd_ne (Ne.symm T.pq)]; exact hq3)⟩, b, xs2, rfl, rfl, by rw [upd_ne (Ne.symm T.pq)]; exact hq3, ?_⟩
  have gA : Gr [] [] H1 (upd (upd H3 a (.lst (xs1 ++ [.non]))) b (.lst [])) := (((g.trans g3 (fun _ z => nomatch z)).mut (.inr T.hp)).mut (.inr T.hq))
  have nA : Nf H1 (upd (upd H3 a (.lst (xs1 ++ [.non]))) b (.lst [])) := nf_new (nf_new (fun a od u e => by
    have h3 := n3 a od u e
    cases hh : H2 a with
    | none => exact absurd hh h3
    | some o =>
      rcases g3 a o (fun z => nomatch z) hh with q | ⟨_, _, _, q, _⟩ | ⟨z, _⟩
      · rw [e] at q
        cases q
        exact nf a od u hh
      · rw [e] at q
        cases q
      · cases z))
  have J5 := J0.grow gA (fun _ z => nomatch z) (fun _ z => nomatch z) (fun _ z => nomatch z) (fun _ z => nomatch z) nA
  have J6 := J5.set (j := j) (v := .non) (d := .none) .non
  have J7 := J6.unset (σ := σ.set j (some (.ref t))) hjn (by rw [List.length_set, List.length_set]) (fun i hi => by rw [List.getElem?_set_ne (Ne.symm hi), List.getElem?_set_ne (Ne.symm hi)])
  exact hrest B O0 M Lk _ τ _ ⟨O, J7⟩
end
end DL

set_option Elab.async false
set_option linter.all false
set_option maxRecDepth 100000
set_option maxHeartbeats 4000000
namespace K80
open PySem PySem.Spec L2 DL
def topS (i : Nat) : Stmt := PySem.Challenge.pw_gatepairs_k80_lines_and_logs_as_text.main.body.getD i (.Pass ⟨0, 0, 0, 0⟩)
abbrev sIsInt : Stmt := topS 4
abbrev sIsTup : Stmt := topS 5
abbrev sIsWord : Stmt := topS 6
abbrev sIsLine : Stmt := topS 10
abbrev sIsKind : Stmt := topS 11
abbrev sIsFloor : Stmt := topS 12
abbrev sFmtLine : Stmt := topS 16
abbrev sFmtWord : Stmt := topS 17
abbrev sFmtLog : Stmt := topS 18
abbrev sParseLine : Stmt := topS 19
abbrev sLineOf : Stmt := topS 20
abbrev sNumOf : Stmt := topS 21
abbrev sWordOf : Stmt := topS 22
abbrev sParseLog : Stmt := topS 23
abbrev sFloorsOf : Stmt := topS 24
abbrev sFeed : Stmt := topS 26
abbrev sTake : Stmt := topS 27
abbrev sPick : Stmt := topS 28
abbrev sAnyLine : Stmt := topS 29
abbrev sAnyKinds : Stmt := topS 30
abbrev sAnyLog : Stmt := topS 31
abbrev sLineText : Stmt := topS 32
abbrev sLogText : Stmt := topS 33
abbrev sSame : Stmt := topS 34
abbrev sLogRight : Stmt := topS 35
abbrev sLaw : Stmt := topS 36
/-! ### data of the program -/
structure Line where
  time : Int
  kind : Option Str
  plate : Option Str
abbrev Kinds := List (Str × Int × Int)
def oS : Option Str → D
  | none => .none
  | some x => .str x
def lineD (l : Line) : D := .tuple [.int l.time, oS l.kind, oS l.plate]
def kindsD (ks : Kinds) : D := .dict (ks.map fun k => (.str k.1, .tuple [.int k.2.1, .int k.2.2]))
def floorD : Option Int → D
  | none => .str "closed"
  | some f => .int f
structure Log where
  entries : List Line
  exits : List Line
  ef : Option Int
  xf : Option Int
def logD (l : Log) : D := .tuple [.list (l.entries.map lineD), .list (l.exits.map lineD), floorD l.ef, floorD l.xf]
def look (ks : Kinds) (k : Str) : Option (Int × Int) := (ks.find? fun p => p.1 == k).map (·.2)
def lineKinds (ks : Kinds) (l : Line) : List Str := match l.kind with
  | none => ks.map (·.1)
  | some k => [k]
def platesAgree (a b : Option Str) : Bool := match a, b with
  | none, _ => true
  | _, none => true
  | some x, some y => decide (x = y)

theorem le_line {n : Nat} (h : n ≤ 1000) : n ≤ sizeLine := Nat.le_trans h (by decide)
abbrev FnV (Tb : List Addr) (args : List D) (res : D) : Sp := spD Tb 0 args.length (fun ds => ds = args) (fun _ d => d = res)
/-! ### values -/
def intIn (lo hi : Int) : D → Bool
  | .int i => decide (lo ≤ i) && decide (i ≤ hi)
  | _ => false
def tupN (n : Nat) : D → Bool
  | .tuple xs => decide (xs.length = n)
  | _ => false
def wordOf (signs : Str) : D → Bool
  | .str z => (decide (1 ≤ z.length) && decide (z.length ≤ 8)) && z.cps.toList.all fun c => decide (c ∈ signs.cps.toList)
  | _ => false
def kindOf (ks : Kinds) : D → Bool
  | .none => true
  | .str z => (look ks z).isSome
  | _ => false
def plateOf (signs : Str) : D → Bool
  | .none => true
  | d => wordOf signs d
def isLineM (signs : Str) (ks : Kinds) : D → Bool
  | .tuple [a, b, c] => intIn 0 1000000000 a && (kindOf ks b && plateOf signs c)
  | _ => false
def shortS : D → Prop
  | .str z => z.length ≤ sizeLine
  | _ => True
def shortL : D → Prop
  | .tuple [_, _, c] => shortS c
  | _ => True
def plSigns : Str := "ABCDEFGHIJKLMNOPQRSTUVWXYZ0123456789"
section
variable {P : Program} {w : World} {K : PySem.W.Frag} {mg : Str → Option Value} {base : Heap} {Tb : List Addr}
theorem keys_kinds (ks : Kinds) : (ks.map fun k => ((.str k.1 : D), (.tuple [.int k.2.1, .int k.2.2] : D))).map (·.1) = (ks.map (·.1)).map .str := by
  rw [List.map_map, List.map_map]
  rfl
def okLine (ks : Kinds) (l : Line) : Prop := ∀ k, l.kind = some k → (look ks k).isSome = true
theorem dlook_kinds (k : Str) : ∀ ks : Kinds, dlook (.str k) (ks.map fun k => (.str k.1, .tuple [.int k.2.1, .int k.2.2])) = (look ks k).map fun p => .tuple [.int p.1, .int p.2]
  | [] => rfl
  | q :: r => by
    have ih := dlook_kinds k r
    rw [List.map_cons]
    unfold look at ih ⊢
    rw [List.find?_cons]
    by_cases e : q.1 = k
    · have e2 : (q.1 == k) = true := by rw [e]; exact beq_self_eq_true k
      rw [e2]
      show (if q.1 = k then _ else _) = _
      rw [if_pos e]
      rfl
    · have e2 : (q.1 == k) = false := by rw [beq_eq_false_iff_ne]; exact e
      rw [e2]
      show (if q.1 = k then _ else _) = _
      rw [if_neg e]
      exact ih
theorem look_mem : ∀ {ks : Kinds} {k : Str}, k ∈ ks.map (·.1) → (look ks k).isSome = true
  | q :: r, k, h => by
    unfold look
    rw [List.find?_cons]
    by_cases e : q.1 = k
    · have e2 : (q.1 == k) = true := by rw [e]; exact beq_self_eq_true k
      rw [e2]
      rfl
    · have e2 : (q.1 == k) = false := by rw [beq_eq_false_iff_ne]; exact e
      rw [e2]
      rw [List.map_cons, List.mem_cons] at h
      exact look_mem (ks := r) (h.resolve_left fun z => e z.symm)
/-! ### the draws -/
abbrev nFeed : List Str := ["script", "k", "seed", "digits"]
theorem scFeed : FnScope nFeed ["script", "k"] (defScope sFeed) := ⟨rfl, rfl, rfl, by decide +kernel, rfl, by decide +kernel, by decide +kernel⟩
theorem head_int {xs : List V} {ns : List Int} {lo hi : Option Int} (h : xs = ns.map V.int) (x : Int) : ∃ z, atI (cutV xs lo hi ++ [.int x]) 0 = some (.int z) := by
  have hm : ∀ v ∈ cutV xs lo hi ++ [.int x], ∃ z, v = .int z := by
    intro v hv
    rcases List.mem_append.mp hv with hv | hv
    · unfold cutV at hv
      have := List.mem_of_mem_drop (List.mem_of_mem_take hv)
      rw [h] at this
      obtain ⟨z, _, rfl⟩ := List.mem_map.mp this
      exact ⟨z, rfl⟩
    · exact ⟨x, List.mem_singleton.mp hv⟩
  cases e : cutV xs lo hi ++ [.int x] with
  | nil => exact absurd (congrArg List.length e) (by simp)
  | cons v vs =>
    obtain ⟨z, rfl⟩ := hm v (by rw [e]; exact List.mem_cons_self)
    exact ⟨z, at_nat (n := 0) (xs := .int z :: vs) rfl⟩
theorem cut_one (xs : List V) (i : Nat) : (cutV xs (some (i : Nat)) (some (((i : Nat) : Int) + 1))).length ≤ 1 := by
  unfold cutV
  rw [List.length_take, List.length_drop, show (((i : Nat) : Int) + 1) = ((i + 1 : Nat) : Int) from by omega, HT.sIx_nat, HT.sIx_nat]
  omega
theorem ok_feed {f c : Addr} {fd : FuncData} (F : FunC K "_law_feed" "_law_feed" sFeed f c fd) (m_list : mg "list" = none) (m_max : mg "max" = none) (m_abs : mg "abs" = none) : FnOk P w K mg base CX0 1 f fd ["script", "k"] (spFeedG K) := by
  refine F.fun.ok scFeed (fun vs H Q E h => ?_) (fun cdv A outer s H vs Q E hr h => ?_)
  · obtain ⟨a, ns, i, rfl, _⟩ := h
    rfl
  · obtain ⟨a, ns, i, rfl, hS, q⟩ := h
    refine ⟨_, pss_cons (ps_set (i := 2) scFeed.nd rfl (.inl rfl) (pe_ix ix_list (pe_op op_cat (pe_callTy call_list_of (by rfl) m_list PyProof.Rows.boot_list (pa_cons (pe_slice sl_list (pv 0) (po_some (pv 1)) (po_some (pe_op op_add (pv 1) pe_int))) pa_nil)) (pe_lst (pa_cons (pe_op op_add (pe_op op_mul pe_int (pv 1)) pe_int) pa_nil))) pe_int (fun _ _ => rfl)))
      (pss_cons (ps_set (i := 3) scFeed.nd rfl (.inl rfl) (pe_callB (call_max2 rfl) (by rfl) m_max PyProof.Rows.boot_max (pa_cons pe_int (pa_cons (pe_op op_sub (pe_callB call_abs (by rfl) m_abs boot_abs' (pa_cons (pv 2) pa_nil)) (pe_op op_pow pe_int pe_int)) pa_nil))))
      (pss_one (ps_ret (pe_lst (pa_cons (pv 3) (pa_cons (pe_op op_mod (pe_op op_add (pe_op op_add (pe_op op_mul (pe_op op_mod (pe_callB call_abs (by rfl) m_abs boot_abs' (pa_cons (pv 2) pa_nil)) pe_int) pe_int) (pe_op op_mul pe_int (pv 1))) pe_int) pe_int) pa_nil)))))), ?_⟩
    refine ⟨.ref a, rfl, .int (i : Nat), rfl, (i : Nat), rfl, .int (i : Nat), rfl, (i : Nat), 1, rfl, rfl, ((i : Nat) : Int) + 1, rfl, a, _, rfl, hS, fun p1 hp1 => ?_⟩
    refine ⟨p1, _, rfl, .inl (.inl (.inl upd_same)), fun p2 hp2 => ?_⟩
    refine ⟨.int (i : Nat), rfl, 71, _, rfl, rfl, .inl ⟨by decide, by decide⟩, _, 23, rfl, rfl, lt1000 (Nat.le_of_ble_eq_true rfl), fun p3 hp3 => ?_⟩
    have n23 : p2 ≠ p3 := fun z => by rw [← z, upd_same] at hp3; cases hp3
    obtain ⟨z, hz⟩ := head_int (lo := some (i : Nat)) (hi := some (((i : Nat) : Int) + 1)) (rfl : ns.map V.int = _) (71 * ((i : Nat) : Int) + 23)
    refine ⟨p2, p3, _, _, rfl, rfl, by rw [upd_ne n23]; exact upd_same, upd_same, ?_, fun p4 hp4 => ?_⟩
    · have := cut_one (ns.map V.int) i
      exact lt1000 (by show _ + 1 ≤ 1000; omega)
    refine ⟨p4, _, 0, _, rfl, rfl, .inl (.inl upd_same), hz, ?_⟩
    refine ⟨.int z, rfl, z, rfl, 10, 18, rfl, rfl, ⟨by decide, by decide, by decide⟩, _, _, rfl, rfl, _, _, rfl, ?_⟩
    refine ⟨.int _, rfl, .int z, rfl, z, rfl, _, 1000003, rfl, rfl, (by show (0 : Int) < 1000003; decide), _, 7919, rfl, rfl, .inr ⟨by decide, by decide⟩, ?_⟩
    refine ⟨.int (i : Nat), rfl, 31, _, rfl, rfl, .inl ⟨by decide, by decide⟩, _, _, rfl, rfl, _, _, rfl, rfl, _, _, rfl, rfl, (by show (0 : Int) < 1000033; decide), ?_⟩
    exact ⟨lt1000 (Nat.le_of_ble_eq_true rfl), fun p hp => q p _ _ _ (((((Gr.refl [] [] H).new hp1).new hp2).new hp3).new hp4) (nf_new (nf_new (nf_new (nf_new (nf_refl H))))) hp⟩
abbrev nTake : List Str := ["feed", "size", "number"]
theorem scTake : FnScope nTake ["feed", "size"] (defScope sTake) := ⟨rfl, rfl, rfl, by decide +kernel, rfl, by decide +kernel, by decide +kernel⟩
theorem ok_take {f c : Addr} {fd : FuncData} (F : FunC K "_law_take" "_law_take" sTake f c fd) : FnOk P w K mg base CX0 1 f fd ["feed", "size"] (spD Tb 1 1 preT postT) := by
  refine F.fun.ok scTake (fun vs H Q E h => ?_) (fun cdv A outer s H vs Q E hr h => ?_)
  · obtain ⟨O0, M, ws, ds, rfl, hMl, _, _, _, _, r, hd, _⟩ := h
    rw [List.length_append, List.length_map, r.length, hMl, hd]
    rfl
  · obtain ⟨O0, M, ws, ds, rfl, hMl, h1, h2, h3, h4, r, hd, ⟨m, rfl, hm0, hm1⟩, q⟩ := h
    obtain ⟨p, rfl⟩ : ∃ p, M = [p] := List.length_eq_one_iff.mp hMl
    obtain ⟨u, rfl⟩ : ∃ u, ws = [u] := List.length_eq_one_iff.mp (r.length.trans hd)
    cases r with
    | cons ru _ =>
      have eu := ru.int'
      subst eu
      obtain ⟨a, b, hp⟩ := h3 p List.mem_cons_self
      have fin : ∀ (x y z : Int), 0 ≤ z → z < m → Q (.int z) (upd H p (.lst [.int x, .int y])) := fun x y z z0 z1 =>
        q (.int z) (.int z) _ ((Gr.refl [p] [] H).mut (.inl List.mem_cons_self)) (nf_upd (fun _ _ z => nomatch z)) (fun f hf => by rw [List.mem_singleton.mp hf]; exact ⟨x, y, upd_same⟩) (.int z) ⟨m, z, rfl, rfl, z0, z1⟩
      refine ⟨_, pss_cons (ps_if (pt_cmpR op_gt (pe_ix ix_list (pv 0) pe_int (fun _ _ => rfl)) pe_int (nomark _))
        (pss_cons (ps_set (i := 2) scTake.nd rfl (.inl rfl) (pe_op op_mod (pe_ix ix_list (pv 0) pe_int (fun _ _ => rfl)) (pv 1)))
        (pss_cons (ps_asg (pe_op op_fdiv (pe_ix ix_list (pv 0) pe_int (fun _ _ => rfl)) (pv 1)) (pg_sub (pv 0) pe_int set_list))
        (pss_one (ps_ret (pv 2))))) pss_nil)
        (pss_cons (ps_asg (pe_op op_mod (pe_op op_add (pe_op op_mul (pe_ix ix_list (pv 0) pe_int (fun _ _ => rfl)) pe_int) pe_int) pe_int) (pg_sub (pv 0) pe_int set_list))
        (pss_one (ps_ret (pe_op op_mod (pe_op op_fdiv (pe_ix ix_list (pv 0) pe_int (fun _ _ => rfl)) pe_int) (pv 1))))), ?_⟩
      have sq : SqL K H p [.int a, .int b] := .inl (.inl hp)
      refine ⟨.ref p, rfl, p, [.int a, .int b], 0, .int a, rfl, rfl, sq, rfl, a, 0, rfl, rfl, _, rfl, ite2 (fun e => ?_) (fun e => ?_)⟩
      · refine ⟨.ref p, rfl, p, [.int a, .int b], 0, .int a, rfl, rfl, sq, rfl, .int m, rfl, a, m, rfl, rfl, hm0, ?_⟩
        refine ⟨.ref p, rfl, p, [.int a, .int b], 0, .int a, rfl, rfl, sq, rfl, .int m, rfl, a, m, rfl, rfl, ⟨hm0, hm1⟩, ?_⟩
        refine ⟨.ref p, rfl, p, [.int a, .int b], 0, 0, rfl, rfl, hp, rfl, ?_⟩
        exact ⟨_, rfl, fin _ _ _ (Int.emod_nonneg _ (by omega)) (Int.emod_lt_of_pos _ hm0)⟩
      · refine ⟨.ref p, rfl, p, [.int a, .int b], 1, .int b, rfl, rfl, sq, rfl, b, 69069, rfl, rfl, .inr ⟨by decide, by decide⟩, _, _, rfl, rfl, _, _, rfl, rfl, (by show (0 : Int) < 4294967311; decide), ?_⟩
        refine ⟨.ref p, rfl, p, [.int a, .int b], 1, 1, rfl, rfl, hp, rfl, ?_⟩
        refine ⟨.ref p, rfl, p, _, 1, _, rfl, rfl, .inl (.inl upd_same), rfl, _, 65536, rfl, rfl, ⟨by decide, by decide⟩, .int m, rfl, _, m, rfl, rfl, hm0, ?_⟩
        exact fin _ _ _ (Int.emod_nonneg _ (by omega)) (Int.emod_lt_of_pos _ hm0)
end
end K80

set_option Elab.async false
set_option linter.all false
set_option maxRecDepth 100000
set_option maxHeartbeats 1000000
namespace K80
open PySem PySem.Spec L2 DL
/-! ### texts of lines and logs -/
abbrev tl := TL.tl
def numS (t : Int) : Str := Str.ofString (toString t)
def partS : Option Str → Str
  | none => "-"
  | some x => x
def lineT (l : Line) : Str := numS l.time ++ " " ++ partS l.kind ++ " " ++ partS l.plate
def floorT : Option Int → Str
  | none => "closed"
  | some f => numS f
def row0 (lg : Log) : Str := ("floors" : Str) ++ " " ++ floorT lg.ef ++ " " ++ floorT lg.xf
def rowIn (l : Line) : Str := ("in" : Str) ++ " " ++ lineT l
def rowOut (l : Line) : Str := ("out" : Str) ++ " " ++ lineT l
def rowsT (lg : Log) : List Str := row0 lg :: (lg.entries.map rowIn ++ lg.exits.map rowOut)
def logT (lg : Log) : Str := Txt.join "\n" (rowsT lg)
/-- a word: one to eight signs from 0 on -/
structure Wd (x : Str) : Prop where
  pos : 1 ≤ x.length
  le : x.length ≤ 8
  sg : ∀ c ∈ tl x, 48 ≤ c ∧ c ≤ 122
structure LineOk (l : Line) : Prop where
  t0 : 0 ≤ l.time
  t1 : l.time ≤ 1000000000
  kd : ∀ x, l.kind = some x → Wd x
  pl : ∀ x, l.plate = some x → Wd x
def FlOk (f : Option Int) : Prop := ∀ x, f = some x → 0 ≤ x ∧ x ≤ 1000000000
/-- a part of a row -/
structure Part (n : Nat) (x : Str) : Prop where
  le : x.length ≤ n
  sg : ∀ c ∈ tl x, 45 ≤ c ∧ c ≤ 122
theorem tl_sp : tl (" " : Str) = [32] := by decide +kernel
theorem tl_nl : tl ("\n" : Str) = [10] := by decide +kernel
theorem num_nat {t : Int} (h0 : 0 ≤ t) : tl (numS t) = TL.numL t.toNat := by
  obtain ⟨n, rfl⟩ := Int.eq_ofNat_of_zero_le h0
  exact TL.tl_num n
theorem num_part {t : Int} (h0 : 0 ≤ t) (h1 : t ≤ 1000000000) : Part 10 (numS t) := by
  refine ⟨?_, fun c hc => ?_⟩
  · rw [TL.len_tl, show TL.tl (numS t) = _ from num_nat h0]
    exact TL.numL_len (by decide) (by have : t.toNat ≤ 1000000000 := by omega
                                      exact Nat.lt_of_le_of_lt this (by decide))
  · rw [num_nat h0] at hc
    have := TL.numL_digits _ c hc
    omega
theorem Wd.part {x : Str} (h : Wd x) : Part 10 x := ⟨Nat.le_trans h.le (by decide), fun c hc => by have := h.sg c hc; omega⟩
theorem dash_part : Part 10 ("-" : Str) := ⟨by decide +kernel, fun c hc => by
  have e : tl ("-" : Str) = [45] := by decide +kernel
  rw [e] at hc
  rw [List.mem_singleton.mp hc]
  decide⟩
theorem part_part {o : Option Str} (h : ∀ x, o = some x → Wd x) : Part 10 (partS o) := by
  cases o with
  | none => exact dash_part
  | some x => exact (h x rfl).part
theorem lit_part {x : Str} (h : (x.length ≤ 10 ∧ (tl x).all (fun c => decide (45 ≤ c) && decide (c ≤ 122)) = true)) : Part 10 x := ⟨h.1, fun c hc => by
  have := List.all_eq_true.mp h.2 c hc
  rw [Bool.and_eq_true, decide_eq_true_iff, decide_eq_true_iff] at this
  exact this⟩
theorem floor_part {o : Option Int} (h : FlOk o) : Part 10 (floorT o) := by
  cases o with
  | none => exact lit_part (by decide +kernel)
  | some f => exact num_part (h f rfl).1 (h f rfl).2
theorem Part.no32 {n : Nat} {x : Str} (h : Part n x) : 32 ∉ TL.tl x := fun hc => by have := h.sg 32 hc; omega
theorem three_join (a b c : Str) : a ++ " " ++ b ++ " " ++ c = Txt.join " " [a, b, c] := by
  refine TL.ext_tl ?_
  rw [TL.join_eq, TL.tl_join]
  show TL.tl _ = TL.tl a ++ (TL.tl (" " : Str) ++ (TL.tl b ++ (TL.tl (" " : Str) ++ TL.tl c)))
  simp only [TL.tl_append, List.append_assoc]
theorem three_split {a b c : Str} {n m k : Nat} (ha : Part n a) (hb : Part m b) (hc : Part k c) : Txt.split (a ++ " " ++ b ++ " " ++ c) " " = [a, b, c] := by
  rw [three_join]
  refine TL.split_join (s := 32) (S := []) tl_sp (by decide +kernel) (fun z => by cases z) fun p hp => ?_
  simp only [List.mem_cons, List.not_mem_nil, or_false] at hp
  rcases hp with rfl | rfl | rfl
  · exact ha.no32
  · exact hb.no32
  · exact hc.no32
theorem line_split {l : Line} (h : LineOk l) : Txt.split (lineT l) " " = [numS l.time, partS l.kind, partS l.plate] :=
  three_split (num_part h.t0 h.t1) (part_part h.kd) (part_part h.pl)
theorem row0_split {lg : Log} (he : FlOk lg.ef) (hx : FlOk lg.xf) : Txt.split (row0 lg) " " = [("floors" : Str), floorT lg.ef, floorT lg.xf] :=
  three_split (n := 10) (lit_part (x := "floors") (by decide +kernel)) (floor_part he) (floor_part hx)
theorem strLen3 (a b c : Str) : (a ++ " " ++ b ++ " " ++ c).length = a.length + b.length + c.length + 2 := by
  rw [strLen_append, strLen_append, strLen_append, strLen_append]
  have : (" " : Str).length = 1 := by decide +kernel
  omega
theorem lineT_len {l : Line} (h : LineOk l) : (lineT l).length ≤ 32 := by
  unfold lineT
  rw [strLen3]
  have := (num_part h.t0 h.t1).le
  have := (part_part h.kd).le
  have := (part_part h.pl).le
  omega
theorem row0_len {lg : Log} (he : FlOk lg.ef) (hx : FlOk lg.xf) : (row0 lg).length ≤ 32 := by
  unfold row0
  rw [strLen3]
  have := (floor_part he).le
  have := (floor_part hx).le
  have : ("floors" : Str).length = 6 := by decide +kernel
  omega
theorem no10_3 {a b c : Str} {n m k : Nat} (ha : Part n a) (hb : Part m b) (hc : Part k c) : 10 ∉ TL.tl (a ++ " " ++ b ++ " " ++ c) := by
  simp only [TL.tl_append, List.mem_append, not_or]
  have e : (10 : Nat) ∉ TL.tl (" " : Str) := by
    show 10 ∉ tl (" " : Str)
    rw [tl_sp]; decide
  refine ⟨⟨⟨⟨fun z => ?_, e⟩, fun z => ?_⟩, e⟩, fun z => ?_⟩
  · have := ha.sg 10 z; omega
  · have := hb.sg 10 z; omega
  · have := hc.sg 10 z; omega
theorem pre_row {w r : Str} (hw : Part 10 w) (hr : 10 ∉ TL.tl r) : 10 ∉ TL.tl (w ++ " " ++ r) := by
  simp only [TL.tl_append, List.mem_append, not_or]
  refine ⟨⟨fun z => by have := hw.sg 10 z; omega, ?_⟩, hr⟩
  show 10 ∉ tl (" " : Str)
  rw [tl_sp]; decide
structure LogOk (lg : Log) : Prop where
  en : ∀ l ∈ lg.entries, LineOk l
  ex : ∀ l ∈ lg.exits, LineOk l
  ln : lg.entries.length ≤ 80
  lx : lg.exits.length ≤ 80
  ef : FlOk lg.ef
  xf : FlOk lg.xf
theorem line_no10 {l : Line} (h : LineOk l) : 10 ∉ TL.tl (lineT l) := no10_3 (num_part h.t0 h.t1) (part_part h.kd) (part_part h.pl)
theorem rows_no10 {lg : Log} (h : LogOk lg) : ∀ p ∈ rowsT lg, 10 ∉ TL.tl p := by
  intro p hp
  unfold rowsT at hp
  rcases List.mem_cons.mp hp with rfl | hp
  · exact no10_3 (n := 10) (lit_part (by decide +kernel)) (floor_part h.ef) (floor_part h.xf)
  · rcases List.mem_append.mp hp with hp | hp
    · obtain ⟨l, hl, rfl⟩ := List.mem_map.mp hp
      exact pre_row (lit_part (by decide +kernel)) (line_no10 (h.en l hl))
    · obtain ⟨l, hl, rfl⟩ := List.mem_map.mp hp
      exact pre_row (lit_part (by decide +kernel)) (line_no10 (h.ex l hl))
theorem log_split {lg : Log} (h : LogOk lg) : Txt.split (logT lg) "\n" = rowsT lg :=
  TL.split_join (s := 10) (S := []) tl_nl (by decide +kernel) (fun z => by cases z) (rows_no10 h)
theorem pre_part {w r : Str} (hw : Part 10 w) : Txt.partition (w ++ " " ++ r) " " = (w, (" " : Str), r) := TL.partition_app (s := 32) (S := []) tl_sp hw.no32
theorem rows_len {lg : Log} (h : LogOk lg) : ∀ p ∈ rowsT lg, p.length ≤ 40 := by
  intro p hp
  have e1 : (" " : Str).length = 1 := by decide +kernel
  have e2 : ("in" : Str).length = 2 := by decide +kernel
  have e3 : ("out" : Str).length = 3 := by decide +kernel
  unfold rowsT at hp
  rcases List.mem_cons.mp hp with rfl | hp
  · exact Nat.le_trans (row0_len h.ef h.xf) (by decide)
  · rcases List.mem_append.mp hp with hp | hp
    · obtain ⟨l, hl, rfl⟩ := List.mem_map.mp hp
      have := lineT_len (h.en l hl)
      unfold rowIn
      rw [strLen_append, strLen_append]
      omega
    · obtain ⟨l, hl, rfl⟩ := List.mem_map.mp hp
      have := lineT_len (h.ex l hl)
      unfold rowOut
      rw [strLen_append, strLen_append]
      omega
theorem rows_many {lg : Log} (h : LogOk lg) : (rowsT lg).length ≤ 161 := by
  unfold rowsT
  rw [List.length_cons, List.length_append, List.length_map, List.length_map]
  have := h.ln
  have := h.lx
  omega
theorem sum_le {n : Nat} : ∀ {xs : List Str}, (∀ p ∈ xs, p.length ≤ n) → (xs.map fun x => x.length).sum ≤ xs.length * n
  | [], _ => Nat.zero_le _
  | x :: xs, h => by
    have h1 := h x List.mem_cons_self
    have h2 := sum_le (xs := xs) fun p hp => h p (List.mem_cons_of_mem _ hp)
    show x.length + (xs.map fun x => x.length).sum ≤ (xs.length + 1) * n
    rw [Nat.add_mul, Nat.one_mul]
    omega
theorem rows_sum {lg : Log} (h : LogOk lg) : ((rowsT lg).map fun x => x.length).sum + (rowsT lg).length * ("\n" : Str).length ≤ 8000 := by
  have h1 := sum_le (rows_len h)
  have h2 := rows_many h
  have e : ("\n" : Str).length = 1 := by decide +kernel
  rw [e]
  have : (rowsT lg).length * 40 ≤ 161 * 40 := Nat.mul_le_mul_right _ h2
  omega
theorem logT_len {lg : Log} (h : LogOk lg) : (logT lg).length ≤ 8000 := by
  unfold logT
  rw [TL.join_eq]
  exact Nat.le_trans (StrLaws.join_length_le _ _) (rows_sum h)
/-! ### numbers read -/
theorem num_head : ∀ n : Nat, (TL.numL n).head? = some 48 → n = 0 := by
  intro n
  induction n using Nat.strongRecOn with
  | _ n ih =>
    intro h
    by_cases hn : n < 10
    · rw [TL.numL_lt hn] at h
      have := Option.some.inj h
      omega
    · rw [TL.numL_step (by omega)] at h
      cases e : TL.numL (n / 10) with
      | nil => exact absurd e (TL.numL_ne _)
      | cons c r =>
        rw [e] at h
        have := ih (n / 10) (by omega) (by rw [e]; exact h)
        omega
theorem num_read {t : Int} (h0 : 0 ≤ t) (h1 : t ≤ 1000000000) : intText? (numS t) = some t := by
  obtain ⟨n, rfl⟩ := Int.eq_ofNat_of_zero_le h0
  exact TL.int_num (Nat.le_trans (TL.numL_len (k := 10) (by decide) (by omega)) (by decide))
theorem num_ne_nil {t : Int} (h0 : 0 ≤ t) : tl (numS t) ≠ [] := by
  rw [num_nat h0]
  exact TL.numL_ne _
theorem num_zero {t : Int} (h0 : 0 ≤ t) (h : (tl (numS t)).head? = some 48) : numS t = "0" := by
  rw [num_nat h0] at h
  have e := num_head _ h
  have e2 : t = 0 := by omega
  subst e2
  decide +kernel
end K80

set_option Elab.async false
set_option linter.all false
set_option maxRecDepth 100000
set_option maxHeartbeats 1000000
namespace K80
open PySem PySem.Spec L2 DL
section
variable {P : Program} {w : World} {K : PySem.W.Frag} {mg : Str → Option Value} {base : Heap} {Tb : List Addr}
theorem p6 : ((10 : Int) ^ ((6 : Int)).toNat) = 1000000 := by decide +kernel
theorem p8 : ((10 : Int) ^ ((8 : Int)).toNat) = 100000000 := by decide +kernel
theorem p9 : ((10 : Int) ^ ((9 : Int)).toNat) = 1000000000 := by decide +kernel
theorem scPick : FnScope ["feed", "choices"] ["feed", "choices"] (defScope sPick) := ⟨rfl, rfl, rfl, by decide +kernel, rfl, by decide +kernel, by decide +kernel⟩
theorem ok_pick {f c : Addr} {fd : FuncData} (F : FunC K "_law_pick" "_law_pick" sPick f c fd) (m_len : mg "len" = none)
    {fT : Addr} {fdT : FuncData} (GT : FnOk P w K mg base CX0 1 fT fdT ["feed", "size"] (spD Tb 1 1 preT postT)) (gT : mg "_law_take" = some (.ref fT)) (kT : PySem.W.keepIn K (.ref fT) = true) (bT : Binds K fdT ["feed", "size"] []) :
    FnOk P w K mg base CX0 2 f fd ["feed", "choices"] (spD Tb 1 1 preP postP) := by
  refine fn_ok F scPick (by decide) rfl fun A outer s H E ds hr hl hp => ?_
  obtain ⟨xs, rfl, h0, h1⟩ := hp
  refine wpSs_one (wpS_ret (wpE_ix (wpE_var 1 rfl ?_)))
  refine wpE_take 0 GT hr gT kT bT rfl ?_
  refine wpE_callB call_lenX ok_len m_len boot_len' (wpA_cons (wpE_var 1 rfl (wpA_nil ⟨(fun _ z => nomatch z), ?_⟩)))
  have hp : 0 < xs.length := List.length_pos_iff.mpr h0
  refine ⟨_, rfl, by omega, by omega, fun z z0 z1 => ?_⟩
  obtain ⟨d, e1, e2⟩ := pick_get z0 z1
  exact ⟨d, e1, xs, rfl, e2⟩
theorem r_pick {xs : List D} {P : D → Prop} (h0 : xs.isEmpty = false) (h1 : Nat.ble (xs.length + 1) 1073741824 = true) (h : ∀ z ∈ xs, P z) : ∃ ys : List D, (.list xs : D) = .list ys ∧ ys ≠ [] ∧ ys.length < 1073741824 ∧ ∀ z ∈ ys, P z :=
  ⟨xs, rfl, (fun e => by rw [e] at h0; cases h0), Nat.le_of_ble_eq_true h1, h⟩
abbrev GTake (P : Program) (w : World) (K : PySem.W.Frag) (mg : Str → Option Value) (base : Heap) (Tb : List Addr) (f : Addr) (fd : FuncData) : Prop := FnOk P w K mg base CX0 1 f fd ["feed", "size"] (spD Tb 1 1 preT postT)
abbrev GPick (P : Program) (w : World) (K : PySem.W.Frag) (mg : Str → Option Value) (base : Heap) (Tb : List Addr) (f : Addr) (fd : FuncData) : Prop := FnOk P w K mg base CX0 2 f fd ["feed", "choices"] (spD Tb 1 1 preP postP)
theorem ok_pickS {f c : Addr} {fd : FuncData} (F : FunC K "_law_pick" "_law_pick" sPick f c fd) (m_len : mg "len" = none)
    {fT : Addr} {fdT : FuncData} (GT : GTake P w K mg base Tb fT fdT) (gT : mg "_law_take" = some (.ref fT)) (kT : PySem.W.keepIn K (.ref fT) = true) (bT : Binds K fdT ["feed", "size"] []) :
    FnOk P w K mg base CX0 2 f fd ["feed", "choices"] (spD Tb 1 1 preS postS) := by
  refine fn_ok F scPick (by decide) rfl fun A outer s H E ds hr hl hp => ?_
  obtain ⟨z, rfl, h0, h1⟩ := hp
  have hz : z.length ≤ sizeLine := Nat.le_trans h1.1 (by decide)
  refine wpSs_one (wpS_ret (wpE_ix (wpE_var 1 rfl ?_)))
  refine wpE_take 0 GT hr gT kT bT rfl ?_
  refine wpE_callB call_lenX ok_len m_len boot_len' (wpA_cons (wpE_var 1 rfl (wpA_nil ⟨(fun _ z => nomatch z), r_lenS hz ?_⟩)))
  have hl := h1.1
  refine ⟨_, rfl, by omega, by omega, fun i i0 i1 => ?_⟩
  obtain ⟨k, rfl⟩ := Int.eq_ofNat_of_zero_le i0
  have hk : k < z.cps.toList.length := by
    rw [Array.length_toList]
    have : k < z.length := by omega
    exact this
  exact ⟨z.cps.toList[k], hz, at_nat (List.getElem?_eq_getElem hk), z, _, rfl, rfl, List.getElem_mem hk, h1.2 _ (List.getElem_mem hk)⟩
abbrev GPickS (P : Program) (w : World) (K : PySem.W.Frag) (mg : Str → Option Value) (base : Heap) (Tb : List Addr) (f : Addr) (fd : FuncData) : Prop := FnOk P w K mg base CX0 2 f fd ["feed", "choices"] (spD Tb 1 1 preS postS)
structure GoodK (ks : Kinds) : Prop where
  ne : ks ≠ []
  len : ks.length ≤ 8
  nd : (ks.map (·.1)).Nodup
  nm : ∀ p ∈ ks, Wd p.1
def kk (ks : Kinds) : List (Key × D) := ks.map fun q => (.inr q.1, .tuple [.int q.2.1, .int q.2.2])
theorem asD_kk (ks : Kinds) : asD (kk ks) = ks.map fun k => ((.str k.1 : D), (.tuple [.int k.2.1, .int k.2.2] : D)) := by
  unfold asD kk
  rw [List.map_map]
  rfl
def putKs (ks : Kinds) (x : Str) (v : Int × Int) : Kinds :=
  if (ks.any fun kv => decide (kv.1 = x)) = true then ks.map (fun kv => if kv.1 = x then (kv.1, v) else kv) else ks ++ [(x, v)]
theorem kk_any (x : Str) : ∀ ks : Kinds, ((kk ks).any fun kv => decide (kv.1 = .inr x)) = ks.any fun kv => decide (kv.1 = x)
  | [] => rfl
  | q :: r => by
    have ih := kk_any x r
    unfold kk at ih ⊢
    rw [List.map_cons, List.any_cons, List.any_cons, ih]
    congr 1
    exact decide_eq_decide.mpr ⟨fun h => Sum.inr.inj h, fun h => by rw [h]⟩
theorem kk_put (ks : Kinds) (x : Str) (v : Int × Int) : putA (kk ks) (.inr x) (.tuple [.int v.1, .int v.2]) = kk (putKs ks x v) := by
  unfold putA putKs
  rw [kk_any]
  split
  · unfold kk
    rw [List.map_map, List.map_map]
    refine List.map_congr_left fun q _ => ?_
    simp only [Function.comp]
    by_cases e : q.1 = x
    · simp only [e, if_true]
    · have e2 : ¬ (Sum.inr q.1 : Key) = Sum.inr x := fun z => e (Sum.inr.inj z)
      simp only [e, e2, if_false]
  · unfold kk
    rw [List.map_append]
    rfl
structure PreK (n : Nat) (ks : Kinds) : Prop where
  ne : 0 < n → ks ≠ []
  len : ks.length ≤ n
  nd : (ks.map (·.1)).Nodup
  nm : ∀ p ∈ ks, Wd p.1
  tv : ∀ p ∈ ks, 0 ≤ p.2.1 ∧ p.2.1 ≤ p.2.2 ∧ p.2.2 ≤ 1000000
theorem putKs_mem {ks : Kinds} {x : Str} {v : Int × Int} {p : Str × Int × Int} (h : p ∈ putKs ks x v) : p ∈ ks ∨ p = (x, v) := by
  unfold putKs at h
  split at h
  · obtain ⟨q, hq, rfl⟩ := List.mem_map.mp h
    by_cases e : q.1 = x
    · rw [if_pos e, e]
      exact .inr rfl
    · rw [if_neg e]
      exact .inl hq
  · rcases List.mem_append.mp h with h | h
    · exact .inl h
    · exact .inr (List.mem_singleton.mp h)
theorem PreK.put {n : Nat} {ks : Kinds} {x : Str} {v : Int × Int} (h : PreK n ks) (hx : Wd x) (hv : 0 ≤ v.1 ∧ v.1 ≤ v.2 ∧ v.2 ≤ 1000000) : PreK (n + 1) (putKs ks x v) := by
  have hk : ∀ ks : Kinds, (kk ks).map (·.1) = (ks.map (·.1)).map Sum.inr := fun ks => by
    unfold kk
    rw [List.map_map, List.map_map]
    rfl
  refine ⟨fun _ e => ?_, ?_, ?_, fun p hp => ?_, fun p hp => ?_⟩
  · unfold putKs at e
    split at e
    · rename_i ha
      have := List.map_eq_nil_iff.mp e
      rw [this] at ha
      cases ha
    · exact absurd e (by simp)
  · have := h.len
    unfold putKs
    split
    · rw [List.length_map]; omega
    · rw [List.length_append, List.length_cons, List.length_nil]; omega
  · have h1 : ((kk ks).map (·.1)).Nodup := by
      rw [hk]
      exact List.pairwise_map.mpr (h.nd.imp fun hab e => hab (Sum.inr.inj e))
    have h2 := putA_nodup (k := (.inr x : Key)) (v := (.tuple [.int v.1, .int v.2] : D)) h1
    rw [kk_put, hk] at h2
    exact (List.pairwise_map.mp h2).imp fun hab e => hab (by rw [e])
  · rcases putKs_mem hp with hp | rfl
    · exact h.nm p hp
    · exact hx
  · rcases putKs_mem hp with hp | rfl
    · exact h.tv p hp
    · exact hv
abbrev nAK : List Str := ["feed", "names", "table", "turn", "shortest"]
theorem scAK : FnScope nAK ["feed"] (defScope sAnyKinds) := ⟨rfl, rfl, rfl, by decide +kernel, rfl, by decide +kernel, by decide +kernel⟩
def namesL : List Str := ["car", "bus", "a", "abcdefgh", "in", "out", "floors", "closed", "none", "open"]
theorem wd_lit {x : Str} (h : (decide (1 ≤ x.length) && decide (x.length ≤ 8) && (tl x).all fun c => decide (48 ≤ c) && decide (c ≤ 122)) = true) : Wd x := by
  rw [Bool.and_eq_true, Bool.and_eq_true, decide_eq_true_iff, decide_eq_true_iff] at h
  refine ⟨h.1.1, h.1.2, fun c hc => ?_⟩
  have := List.all_eq_true.mp h.2 c hc
  rw [Bool.and_eq_true, decide_eq_true_iff, decide_eq_true_iff] at this
  exact this
theorem names_wd : ∀ x ∈ namesL, Wd x := by
  intro x hx
  unfold namesL at hx
  simp only [List.mem_cons, List.not_mem_nil, or_false] at hx
  rcases hx with rfl | rfl | rfl | rfl | rfl | rfl | rfl | rfl | rfl | rfl <;> exact wd_lit (by decide +kernel)
theorem ok_anyKinds {f c : Addr} {fd : FuncData} (F : FunC K "_law_any_kinds" "_law_any_kinds" sAnyKinds f c fd) (m_range : mg "range" = none)
    {fT : Addr} {fdT : FuncData} (GT : GTake P w K mg base Tb fT fdT) (gT : mg "_law_take" = some (.ref fT)) (kT : PySem.W.keepIn K (.ref fT) = true) (bT : Binds K fdT ["feed", "size"] [])
    {fP : Addr} {fdP : FuncData} (GP : GPick P w K mg base Tb fP fdP) (gP : mg "_law_pick" = some (.ref fP)) (kP : PySem.W.keepIn K (.ref fP) = true) (bP : Binds K fdP ["feed", "choices"] []) :
    FnOk P w K mg base CX0 3 f fd ["feed"] (spD Tb 1 0 (fun ds => ds = []) fun _ d => ∃ ks : Kinds, d = kindsD ks ∧ GoodK ks) := by
  refine fn_ok F scAK (by decide) rfl fun A outer s H E ds hr hl hp => ?_
  subst hp
  have hr1 : Room 1 (A.deeper (PyProof.Rows.envOfC "_law_any_kinds" (defScope sAnyKinds) s.heap.objs.size f (.ref c))) := hr.mono (by decide)
  have hu : (A.deeper (PyProof.Rows.envOfC "_law_any_kinds" (defScope sAnyKinds) s.heap.objs.size f (.ref c))).units + 1 < cLine := by have := hr.un; omega
  refine wpSs_cons (wpS_set 1 ?_ scAK.nd)
  repeat (first | ((with_reducible show wpA _ _ (_ :: _) _ _); refine wpA_cons ?_) | with_reducible refine wpA_nil ?_ | with_reducible refine wpE_int ?_ | with_reducible refine wpE_none ?_ | with_reducible refine wpE_bool ?_ | with_reducible refine wpE_str ?_ | with_reducible refine r_addI ?_ | with_reducible refine r_subI ?_ | with_reducible refine r_small (by with_unfolding_all rfl) ?_ | with_reducible refine r_addL (by with_unfolding_all rfl) ?_ | ((with_reducible show wpE _ _ (.Name _ _) _ _); first | refine wpE_var 0 rfl ?_ | refine wpE_var 1 rfl ?_ | refine wpE_var 2 rfl ?_ | refine wpE_var 3 rfl ?_ | refine wpE_var 4 rfl ?_ | refine wpE_var 5 rfl ?_ | refine wpE_var 6 rfl ?_ | refine wpE_var 7 rfl ?_ | refine wpE_var 8 rfl ?_ | refine wpE_var 9 rfl ?_ | refine wpE_var 10 rfl ?_ | refine wpE_var 11 rfl ?_ | refine wpE_var 12 rfl ?_ | refine wpE_var 13 rfl ?_) | ((with_reducible show wpE _ _ (.Tuple _ _ _) _ _); refine wpE_tup ?_) | ((with_reducible show wpE _ _ (.List _ _) _ _); refine wpE_lst ?_) | ((with_reducible show wpE _ _ (.BinOp _ .Add _ _) _ _); refine wpE_bin op_addD ok_add ?_) | ((with_reducible show wpE _ _ (.BinOp _ .Sub _ _) _ _); refine wpE_bin op_sub ok_sub ?_) | ((with_reducible show wpE _ _ (.Dict [_, _] _ _) _ _); refine wpE_disp2 ?_) | ((with_reducible show wpE _ _ (.Dict [_] _ _) _ _); refine wpE_disp1 ?_) | with_reducible refine r_d2 (by decide +kernel) ?_ | with_reducible refine r_d1 ?_)
  show wpSs _ _ _ [some (.own .feed), some (.d (.list (namesL.map .str))), none, none, none] _
  refine wpSs_cons (wpS_newD 2 ?_ scAK.nd)
  show wpSs _ _ _ [some (.own .feed), some (.d (.list (namesL.map .str))), some (.own (.dic (asD (kk [])))), none, none] _
  refine wpSs_cons (wpS_for (wpI_range m_range (wpA_cons ?_)) PassesOwn.never rfl)
  refine wpE_bin op_addD ok_add (wpE_int ?_)
  refine wpE_take 0 GT hr1 gT kT bT rfl (wpE_int ⟨_, rfl, by decide, by decide, fun q q0 q1 => ?_⟩)
  refine r_addI (wpA_nil ⟨_, rfl, ⟨by omega, by omega⟩, ?_⟩)
  refine ⟨fun i δ' => ∃ ks s3 s4, PreK i ks ∧ δ' = [some (.own .feed), some (.d (.list (namesL.map .str))), some (.own (.dic (asD (kk ks)))), s3, s4],
    ⟨[], _, _, ⟨fun z => absurd z (by decide), Nat.le_refl _, List.nodup_nil, (fun _ z => nomatch z), (fun _ z => nomatch z)⟩, rfl⟩, ?_, ?_⟩
  · rintro i d δ' hd ⟨ks, s3, s4, hk, rfl⟩
    have hi8 : i < 8 := by
      have := (List.getElem?_eq_some_iff.mp hd).1
      rw [List.length_map, List.length_range] at this
      omega
    refine wpG_name 3 ?_ scAK.nd
    show wpSs _ _ _ [some (.own .feed), some (.d (.list (namesL.map .str))), some (.own (.dic (asD (kk ks)))), some (.d d), s4] _
    refine wpSs_cons (wpS_set 4 ?_ scAK.nd)
    refine wpE_take 0 GT hr1 gT kT bT rfl ?_
    refine wpE_bin op_addD ok_add (wpE_bin op_pow ok_pow ?_)
    repeat (first | ((with_reducible show wpA _ _ (_ :: _) _ _); refine wpA_cons ?_) | with_reducible refine wpA_nil ?_ | with_reducible refine wpE_int ?_ | with_reducible refine wpE_none ?_ | with_reducible refine wpE_bool ?_ | with_reducible refine wpE_str ?_ | with_reducible refine r_addI ?_ | with_reducible refine r_subI ?_ | with_reducible refine r_small (by with_unfolding_all rfl) ?_ | with_reducible refine r_addL (by with_unfolding_all rfl) ?_ | ((with_reducible show wpE _ _ (.Name _ _) _ _); first | refine wpE_var 0 rfl ?_ | refine wpE_var 1 rfl ?_ | refine wpE_var 2 rfl ?_ | refine wpE_var 3 rfl ?_ | refine wpE_var 4 rfl ?_ | refine wpE_var 5 rfl ?_ | refine wpE_var 6 rfl ?_ | refine wpE_var 7 rfl ?_ | refine wpE_var 8 rfl ?_ | refine wpE_var 9 rfl ?_ | refine wpE_var 10 rfl ?_ | refine wpE_var 11 rfl ?_ | refine wpE_var 12 rfl ?_ | refine wpE_var 13 rfl ?_) | ((with_reducible show wpE _ _ (.Tuple _ _ _) _ _); refine wpE_tup ?_) | ((with_reducible show wpE _ _ (.List _ _) _ _); refine wpE_lst ?_) | ((with_reducible show wpE _ _ (.BinOp _ .Add _ _) _ _); refine wpE_bin op_addD ok_add ?_) | ((with_reducible show wpE _ _ (.BinOp _ .Sub _ _) _ _); refine wpE_bin op_sub ok_sub ?_) | ((with_reducible show wpE _ _ (.Dict [_, _] _ _) _ _); refine wpE_disp2 ?_) | ((with_reducible show wpE _ _ (.Dict [_] _ _) _ _); refine wpE_disp1 ?_) | with_reducible refine r_d2 (by decide +kernel) ?_ | with_reducible refine r_d1 ?_)
    refine ⟨⟨by decide, by decide, by decide⟩, ?_⟩
    rw [p6]
    repeat (first | ((with_reducible show wpA _ _ (_ :: _) _ _); refine wpA_cons ?_) | with_reducible refine wpA_nil ?_ | with_reducible refine wpE_int ?_ | with_reducible refine wpE_none ?_ | with_reducible refine wpE_bool ?_ | with_reducible refine wpE_str ?_ | with_reducible refine r_addI ?_ | with_reducible refine r_subI ?_ | with_reducible refine r_small (by with_unfolding_all rfl) ?_ | with_reducible refine r_addL (by with_unfolding_all rfl) ?_ | ((with_reducible show wpE _ _ (.Name _ _) _ _); first | refine wpE_var 0 rfl ?_ | refine wpE_var 1 rfl ?_ | refine wpE_var 2 rfl ?_ | refine wpE_var 3 rfl ?_ | refine wpE_var 4 rfl ?_ | refine wpE_var 5 rfl ?_ | refine wpE_var 6 rfl ?_ | refine wpE_var 7 rfl ?_ | refine wpE_var 8 rfl ?_ | refine wpE_var 9 rfl ?_ | refine wpE_var 10 rfl ?_ | refine wpE_var 11 rfl ?_ | refine wpE_var 12 rfl ?_ | refine wpE_var 13 rfl ?_) | ((with_reducible show wpE _ _ (.Tuple _ _ _) _ _); refine wpE_tup ?_) | ((with_reducible show wpE _ _ (.List _ _) _ _); refine wpE_lst ?_) | ((with_reducible show wpE _ _ (.BinOp _ .Add _ _) _ _); refine wpE_bin op_addD ok_add ?_) | ((with_reducible show wpE _ _ (.BinOp _ .Sub _ _) _ _); refine wpE_bin op_sub ok_sub ?_) | ((with_reducible show wpE _ _ (.Dict [_, _] _ _) _ _); refine wpE_disp2 ?_) | ((with_reducible show wpE _ _ (.Dict [_] _ _) _ _); refine wpE_disp1 ?_) | with_reducible refine r_d2 (by decide +kernel) ?_ | with_reducible refine r_d1 ?_)
    refine ⟨_, rfl, by decide, by decide, fun lo lo0 lo1 => ?_⟩
    show wpSs _ _ _ [some (.own .feed), some (.d (.list (namesL.map .str))), some (.own (.dic (asD (kk ks)))), some (.d d), some (.d (.int lo))] _
    refine wpSs_one (wpS_put 2 rfl hu ?_)
    repeat (first | ((with_reducible show wpA _ _ (_ :: _) _ _); refine wpA_cons ?_) | with_reducible refine wpA_nil ?_ | with_reducible refine wpE_int ?_ | with_reducible refine wpE_none ?_ | with_reducible refine wpE_bool ?_ | with_reducible refine wpE_str ?_ | with_reducible refine r_addI ?_ | with_reducible refine r_subI ?_ | with_reducible refine r_small (by with_unfolding_all rfl) ?_ | with_reducible refine r_addL (by with_unfolding_all rfl) ?_ | ((with_reducible show wpE _ _ (.Name _ _) _ _); first | refine wpE_var 0 rfl ?_ | refine wpE_var 1 rfl ?_ | refine wpE_var 2 rfl ?_ | refine wpE_var 3 rfl ?_ | refine wpE_var 4 rfl ?_ | refine wpE_var 5 rfl ?_ | refine wpE_var 6 rfl ?_ | refine wpE_var 7 rfl ?_ | refine wpE_var 8 rfl ?_ | refine wpE_var 9 rfl ?_ | refine wpE_var 10 rfl ?_ | refine wpE_var 11 rfl ?_ | refine wpE_var 12 rfl ?_ | refine wpE_var 13 rfl ?_) | ((with_reducible show wpE _ _ (.Tuple _ _ _) _ _); refine wpE_tup ?_) | ((with_reducible show wpE _ _ (.List _ _) _ _); refine wpE_lst ?_) | ((with_reducible show wpE _ _ (.BinOp _ .Add _ _) _ _); refine wpE_bin op_addD ok_add ?_) | ((with_reducible show wpE _ _ (.BinOp _ .Sub _ _) _ _); refine wpE_bin op_sub ok_sub ?_) | ((with_reducible show wpE _ _ (.Dict [_, _] _ _) _ _); refine wpE_disp2 ?_) | ((with_reducible show wpE _ _ (.Dict [_] _ _) _ _); refine wpE_disp1 ?_) | with_reducible refine r_d2 (by decide +kernel) ?_ | with_reducible refine r_d1 ?_)
    refine wpE_take 0 GT hr1 gT kT bT rfl ?_
    refine wpE_bin op_addD ok_add (wpE_bin op_sub ok_sub (wpE_bin op_pow ok_pow ?_))
    repeat (first | ((with_reducible show wpA _ _ (_ :: _) _ _); refine wpA_cons ?_) | with_reducible refine wpA_nil ?_ | with_reducible refine wpE_int ?_ | with_reducible refine wpE_none ?_ | with_reducible refine wpE_bool ?_ | with_reducible refine wpE_str ?_ | with_reducible refine r_addI ?_ | with_reducible refine r_subI ?_ | with_reducible refine r_small (by with_unfolding_all rfl) ?_ | with_reducible refine r_addL (by with_unfolding_all rfl) ?_ | ((with_reducible show wpE _ _ (.Name _ _) _ _); first | refine wpE_var 0 rfl ?_ | refine wpE_var 1 rfl ?_ | refine wpE_var 2 rfl ?_ | refine wpE_var 3 rfl ?_ | refine wpE_var 4 rfl ?_ | refine wpE_var 5 rfl ?_ | refine wpE_var 6 rfl ?_ | refine wpE_var 7 rfl ?_ | refine wpE_var 8 rfl ?_ | refine wpE_var 9 rfl ?_ | refine wpE_var 10 rfl ?_ | refine wpE_var 11 rfl ?_ | refine wpE_var 12 rfl ?_ | refine wpE_var 13 rfl ?_) | ((with_reducible show wpE _ _ (.Tuple _ _ _) _ _); refine wpE_tup ?_) | ((with_reducible show wpE _ _ (.List _ _) _ _); refine wpE_lst ?_) | ((with_reducible show wpE _ _ (.BinOp _ .Add _ _) _ _); refine wpE_bin op_addD ok_add ?_) | ((with_reducible show wpE _ _ (.BinOp _ .Sub _ _) _ _); refine wpE_bin op_sub ok_sub ?_) | ((with_reducible show wpE _ _ (.Dict [_, _] _ _) _ _); refine wpE_disp2 ?_) | ((with_reducible show wpE _ _ (.Dict [_] _ _) _ _); refine wpE_disp1 ?_) | with_reducible refine r_d2 (by decide +kernel) ?_ | with_reducible refine r_d1 ?_)
    refine ⟨⟨by decide, by decide, by decide⟩, ?_⟩
    rw [p6]
    repeat (first | ((with_reducible show wpA _ _ (_ :: _) _ _); refine wpA_cons ?_) | with_reducible refine wpA_nil ?_ | with_reducible refine wpE_int ?_ | with_reducible refine wpE_none ?_ | with_reducible refine wpE_bool ?_ | with_reducible refine wpE_str ?_ | with_reducible refine r_addI ?_ | with_reducible refine r_subI ?_ | with_reducible refine r_small (by with_unfolding_all rfl) ?_ | with_reducible refine r_addL (by with_unfolding_all rfl) ?_ | ((with_reducible show wpE _ _ (.Name _ _) _ _); first | refine wpE_var 0 rfl ?_ | refine wpE_var 1 rfl ?_ | refine wpE_var 2 rfl ?_ | refine wpE_var 3 rfl ?_ | refine wpE_var 4 rfl ?_ | refine wpE_var 5 rfl ?_ | refine wpE_var 6 rfl ?_ | refine wpE_var 7 rfl ?_ | refine wpE_var 8 rfl ?_ | refine wpE_var 9 rfl ?_ | refine wpE_var 10 rfl ?_ | refine wpE_var 11 rfl ?_ | refine wpE_var 12 rfl ?_ | refine wpE_var 13 rfl ?_) | ((with_reducible show wpE _ _ (.Tuple _ _ _) _ _); refine wpE_tup ?_) | ((with_reducible show wpE _ _ (.List _ _) _ _); refine wpE_lst ?_) | ((with_reducible show wpE _ _ (.BinOp _ .Add _ _) _ _); refine wpE_bin op_addD ok_add ?_) | ((with_reducible show wpE _ _ (.BinOp _ .Sub _ _) _ _); refine wpE_bin op_sub ok_sub ?_) | ((with_reducible show wpE _ _ (.Dict [_, _] _ _) _ _); refine wpE_disp2 ?_) | ((with_reducible show wpE _ _ (.Dict [_] _ _) _ _); refine wpE_disp1 ?_) | with_reducible refine r_d2 (by decide +kernel) ?_ | with_reducible refine r_d1 ?_)
    refine ⟨_, rfl, by omega, by omega, fun ex ex0 ex1 => ?_⟩
    repeat (first | ((with_reducible show wpA _ _ (_ :: _) _ _); refine wpA_cons ?_) | with_reducible refine wpA_nil ?_ | with_reducible refine wpE_int ?_ | with_reducible refine wpE_none ?_ | with_reducible refine wpE_bool ?_ | with_reducible refine wpE_str ?_ | with_reducible refine r_addI ?_ | with_reducible refine r_subI ?_ | with_reducible refine r_small (by with_unfolding_all rfl) ?_ | with_reducible refine r_addL (by with_unfolding_all rfl) ?_ | ((with_reducible show wpE _ _ (.Name _ _) _ _); first | refine wpE_var 0 rfl ?_ | refine wpE_var 1 rfl ?_ | refine wpE_var 2 rfl ?_ | refine wpE_var 3 rfl ?_ | refine wpE_var 4 rfl ?_ | refine wpE_var 5 rfl ?_ | refine wpE_var 6 rfl ?_ | refine wpE_var 7 rfl ?_ | refine wpE_var 8 rfl ?_ | refine wpE_var 9 rfl ?_ | refine wpE_var 10 rfl ?_ | refine wpE_var 11 rfl ?_ | refine wpE_var 12 rfl ?_ | refine wpE_var 13 rfl ?_) | ((with_reducible show wpE _ _ (.Tuple _ _ _) _ _); refine wpE_tup ?_) | ((with_reducible show wpE _ _ (.List _ _) _ _); refine wpE_lst ?_) | ((with_reducible show wpE _ _ (.BinOp _ .Add _ _) _ _); refine wpE_bin op_addD ok_add ?_) | ((with_reducible show wpE _ _ (.BinOp _ .Sub _ _) _ _); refine wpE_bin op_sub ok_sub ?_) | ((with_reducible show wpE _ _ (.Dict [_, _] _ _) _ _); refine wpE_disp2 ?_) | ((with_reducible show wpE _ _ (.Dict [_] _ _) _ _); refine wpE_disp1 ?_) | with_reducible refine r_d2 (by decide +kernel) ?_ | with_reducible refine r_d1 ?_)
    refine wpE_pick 0 GP (hr.mono (by decide)) gP kP bP rfl (wpE_var 1 rfl ⟨_, rfl, (fun z => by cases z), by decide, fun y hy => ?_⟩)
    obtain ⟨nm, hnm, rfl⟩ := List.mem_map.mp hy
    refine ⟨.inr nm, rfl, ?_, ?_⟩
    · show (kk ks).length < sizeLine
      unfold kk
      rw [List.length_map]
      exact Nat.lt_of_le_of_lt (Nat.le_trans hk.len (by omega : i ≤ 1000)) (by decide)
    · exact ⟨putKs ks nm (lo, lo + ex), _, _, hk.put (names_wd nm hnm) ⟨lo0, by show lo ≤ lo + ex; omega, by show lo + ex ≤ 1000000; omega⟩, by rw [← kk_put]; rfl⟩
  · rintro δ' ⟨ks, s3, s4, hk, rfl⟩
    rw [List.length_map, List.length_range] at hk
    refine wpSs_thawD 2 rfl ?_
    refine wpSs_one (wpS_ret (wpE_var 2 rfl ?_))
    refine ⟨ks, ?_, hk.ne (by omega), Nat.le_trans hk.len (by omega), hk.nd, hk.nm⟩
    rw [asD_kk]
    rfl
end
end K80

set_option Elab.async false
set_option linter.all false
set_option maxRecDepth 100000
set_option maxHeartbeats 1000000
namespace K80
open PySem PySem.Spec L2 DL
section
variable {P : Program} {w : World} {K : PySem.W.Frag} {mg : Str → Option Value} {base : Heap} {Tb : List Addr}
theorem boot_sorted' : bootBuiltins "sorted" = some (.builtin "sorted") := by decide +kernel
theorem plSigns_v : VOk 36 plSigns := vok_text (by decide +kernel) (by decide +kernel)
theorem plSigns_ok : Ok8 1000 plSigns := (plSigns_v.mono (by decide)).ok8
theorem plSigns_rng : ∀ c ∈ plSigns.cps.toList, 48 ≤ c ∧ c ≤ 122 := by
  have h : (plSigns.cps.toList.all fun c => decide (48 ≤ c) && decide (c ≤ 122)) = true := by decide +kernel
  intro c hc
  have := List.all_eq_true.mp h c hc
  rw [Bool.and_eq_true, decide_eq_true_iff, decide_eq_true_iff] at this
  exact this
/-- a line of the table -/
structure LnK (ks : Kinds) (l : Line) : Prop where
  ok : LineOk l
  kd : ∀ k, l.kind = some k → k ∈ ks.map (·.1)
  pw : ∀ x, l.plate = some x → wordOf plSigns (.str x) = true
abbrev postAL : List D → D → Prop := fun ds d => ∃ (ks : Kinds) (l : Line), ds = [kindsD ks] ∧ d = lineD l ∧ LnK ks l
abbrev preAL : List D → Prop := fun ds => ∃ ks : Kinds, ds = [kindsD ks] ∧ GoodK ks
abbrev nAL : List Str := ["feed", "kinds", "time", "characters", "plate", "k"]
theorem scAL : FnScope nAL ["feed", "kinds"] (defScope sAnyLine) := ⟨rfl, rfl, rfl, by decide +kernel, rfl, by decide +kernel, by decide +kernel⟩
theorem ok_anyLine {f c : Addr} {fd : FuncData} (F : FunC K "_law_any_line" "_law_any_line" sAnyLine f c fd) (m_range : mg "range" = none) (m_sorted : mg "sorted" = none)
    {fT : Addr} {fdT : FuncData} (GT : GTake P w K mg base Tb fT fdT) (gT : mg "_law_take" = some (.ref fT)) (kT : PySem.W.keepIn K (.ref fT) = true) (bT : Binds K fdT ["feed", "size"] [])
    {fP : Addr} {fdP : FuncData} (GP : GPick P w K mg base Tb fP fdP) (GS : GPickS P w K mg base Tb fP fdP) (gP : mg "_law_pick" = some (.ref fP)) (kP : PySem.W.keepIn K (.ref fP) = true) (bP : Binds K fdP ["feed", "choices"] []) :
    FnOk P w K mg base CX0 3 f fd ["feed", "kinds"] (spD Tb 1 1 preAL postAL) := by
  refine fn_ok F scAL (by decide) rfl fun A outer s H E ds hr hl hp => ?_
  obtain ⟨ks, rfl, hk⟩ := hp
  have hr1 : Room 1 (A.deeper (PyProof.Rows.envOfC "_law_any_line" (defScope sAnyLine) s.heap.objs.size f (.ref c))) := hr.mono (by decide)
  refine wpSs_cons (wpS_set 2 ?_ scAL.nd)
  refine wpE_pick 0 GP hr gP kP bP rfl ?_
  repeat (first | ((with_reducible show wpA _ _ (_ :: _) _ _); refine wpA_cons ?_) | with_reducible refine wpA_nil ?_ | with_reducible refine wpE_int ?_ | with_reducible refine wpE_none ?_ | with_reducible refine wpE_bool ?_ | with_reducible refine wpE_str ?_ | with_reducible refine r_addI ?_ | with_reducible refine r_subI ?_ | with_reducible refine r_small (by with_unfolding_all rfl) ?_ | with_reducible refine r_addL (by with_unfolding_all rfl) ?_ | ((with_reducible show wpE _ _ (.Name _ _) _ _); first | refine wpE_var 0 rfl ?_ | refine wpE_var 1 rfl ?_ | refine wpE_var 2 rfl ?_ | refine wpE_var 3 rfl ?_ | refine wpE_var 4 rfl ?_ | refine wpE_var 5 rfl ?_ | refine wpE_var 6 rfl ?_ | refine wpE_var 7 rfl ?_ | refine wpE_var 8 rfl ?_ | refine wpE_var 9 rfl ?_ | refine wpE_var 10 rfl ?_ | refine wpE_var 11 rfl ?_ | refine wpE_var 12 rfl ?_ | refine wpE_var 13 rfl ?_) | ((with_reducible show wpE _ _ (.Tuple _ _ _) _ _); refine wpE_tup ?_) | ((with_reducible show wpE _ _ (.List _ _) _ _); refine wpE_lst ?_) | ((with_reducible show wpE _ _ (.BinOp _ .Add _ _) _ _); refine wpE_bin op_addD ok_add ?_) | ((with_reducible show wpE _ _ (.BinOp _ .Sub _ _) _ _); refine wpE_bin op_sub ok_sub ?_) | ((with_reducible show wpE _ _ (.Dict [_, _] _ _) _ _); refine wpE_disp2 ?_) | ((with_reducible show wpE _ _ (.Dict [_] _ _) _ _); refine wpE_disp1 ?_) | with_reducible refine r_d2 (by decide +kernel) ?_ | with_reducible refine r_d1 ?_)
  refine wpE_take 0 GT hr1 gT kT bT rfl (wpE_int ⟨_, rfl, by decide, by decide, fun z1 z10 z11 => ?_⟩)
  repeat (first | ((with_reducible show wpA _ _ (_ :: _) _ _); refine wpA_cons ?_) | with_reducible refine wpA_nil ?_ | with_reducible refine wpE_int ?_ | with_reducible refine wpE_none ?_ | with_reducible refine wpE_bool ?_ | with_reducible refine wpE_str ?_ | with_reducible refine r_addI ?_ | with_reducible refine r_subI ?_ | with_reducible refine r_small (by with_unfolding_all rfl) ?_ | with_reducible refine r_addL (by with_unfolding_all rfl) ?_ | ((with_reducible show wpE _ _ (.Name _ _) _ _); first | refine wpE_var 0 rfl ?_ | refine wpE_var 1 rfl ?_ | refine wpE_var 2 rfl ?_ | refine wpE_var 3 rfl ?_ | refine wpE_var 4 rfl ?_ | refine wpE_var 5 rfl ?_ | refine wpE_var 6 rfl ?_ | refine wpE_var 7 rfl ?_ | refine wpE_var 8 rfl ?_ | refine wpE_var 9 rfl ?_ | refine wpE_var 10 rfl ?_ | refine wpE_var 11 rfl ?_ | refine wpE_var 12 rfl ?_ | refine wpE_var 13 rfl ?_) | ((with_reducible show wpE _ _ (.Tuple _ _ _) _ _); refine wpE_tup ?_) | ((with_reducible show wpE _ _ (.List _ _) _ _); refine wpE_lst ?_) | ((with_reducible show wpE _ _ (.BinOp _ .Add _ _) _ _); refine wpE_bin op_addD ok_add ?_) | ((with_reducible show wpE _ _ (.BinOp _ .Sub _ _) _ _); refine wpE_bin op_sub ok_sub ?_) | ((with_reducible show wpE _ _ (.Dict [_, _] _ _) _ _); refine wpE_disp2 ?_) | ((with_reducible show wpE _ _ (.Dict [_] _ _) _ _); refine wpE_disp1 ?_) | with_reducible refine r_d2 (by decide +kernel) ?_ | with_reducible refine r_d1 ?_)
  refine wpE_take 0 GT hr1 gT kT bT rfl ?_
  refine wpE_bin op_addD ok_add (wpE_bin op_pow ok_pow ?_)
  repeat (first | ((with_reducible show wpA _ _ (_ :: _) _ _); refine wpA_cons ?_) | with_reducible refine wpA_nil ?_ | with_reducible refine wpE_int ?_ | with_reducible refine wpE_none ?_ | with_reducible refine wpE_bool ?_ | with_reducible refine wpE_str ?_ | with_reducible refine r_addI ?_ | with_reducible refine r_subI ?_ | with_reducible refine r_small (by with_unfolding_all rfl) ?_ | with_reducible refine r_addL (by with_unfolding_all rfl) ?_ | ((with_reducible show wpE _ _ (.Name _ _) _ _); first | refine wpE_var 0 rfl ?_ | refine wpE_var 1 rfl ?_ | refine wpE_var 2 rfl ?_ | refine wpE_var 3 rfl ?_ | refine wpE_var 4 rfl ?_ | refine wpE_var 5 rfl ?_ | refine wpE_var 6 rfl ?_ | refine wpE_var 7 rfl ?_ | refine wpE_var 8 rfl ?_ | refine wpE_var 9 rfl ?_ | refine wpE_var 10 rfl ?_ | refine wpE_var 11 rfl ?_ | refine wpE_var 12 rfl ?_ | refine wpE_var 13 rfl ?_) | ((with_reducible show wpE _ _ (.Tuple _ _ _) _ _); refine wpE_tup ?_) | ((with_reducible show wpE _ _ (.List _ _) _ _); refine wpE_lst ?_) | ((with_reducible show wpE _ _ (.BinOp _ .Add _ _) _ _); refine wpE_bin op_addD ok_add ?_) | ((with_reducible show wpE _ _ (.BinOp _ .Sub _ _) _ _); refine wpE_bin op_sub ok_sub ?_) | ((with_reducible show wpE _ _ (.Dict [_, _] _ _) _ _); refine wpE_disp2 ?_) | ((with_reducible show wpE _ _ (.Dict [_] _ _) _ _); refine wpE_disp1 ?_) | with_reducible refine r_d2 (by decide +kernel) ?_ | with_reducible refine r_d1 ?_)
  refine ⟨⟨by decide, by decide, by decide⟩, ?_⟩
  rw [p9]
  repeat (first | ((with_reducible show wpA _ _ (_ :: _) _ _); refine wpA_cons ?_) | with_reducible refine wpA_nil ?_ | with_reducible refine wpE_int ?_ | with_reducible refine wpE_none ?_ | with_reducible refine wpE_bool ?_ | with_reducible refine wpE_str ?_ | with_reducible refine r_addI ?_ | with_reducible refine r_subI ?_ | with_reducible refine r_small (by with_unfolding_all rfl) ?_ | with_reducible refine r_addL (by with_unfolding_all rfl) ?_ | ((with_reducible show wpE _ _ (.Name _ _) _ _); first | refine wpE_var 0 rfl ?_ | refine wpE_var 1 rfl ?_ | refine wpE_var 2 rfl ?_ | refine wpE_var 3 rfl ?_ | refine wpE_var 4 rfl ?_ | refine wpE_var 5 rfl ?_ | refine wpE_var 6 rfl ?_ | refine wpE_var 7 rfl ?_ | refine wpE_var 8 rfl ?_ | refine wpE_var 9 rfl ?_ | refine wpE_var 10 rfl ?_ | refine wpE_var 11 rfl ?_ | refine wpE_var 12 rfl ?_ | refine wpE_var 13 rfl ?_) | ((with_reducible show wpE _ _ (.Tuple _ _ _) _ _); refine wpE_tup ?_) | ((with_reducible show wpE _ _ (.List _ _) _ _); refine wpE_lst ?_) | ((with_reducible show wpE _ _ (.BinOp _ .Add _ _) _ _); refine wpE_bin op_addD ok_add ?_) | ((with_reducible show wpE _ _ (.BinOp _ .Sub _ _) _ _); refine wpE_bin op_sub ok_sub ?_) | ((with_reducible show wpE _ _ (.Dict [_, _] _ _) _ _); refine wpE_disp2 ?_) | ((with_reducible show wpE _ _ (.Dict [_] _ _) _ _); refine wpE_disp1 ?_) | with_reducible refine r_d2 (by decide +kernel) ?_ | with_reducible refine r_d1 ?_)
  refine ⟨_, rfl, by decide, by decide, fun z2 z20 z21 => ?_⟩
  repeat (first | ((with_reducible show wpA _ _ (_ :: _) _ _); refine wpA_cons ?_) | with_reducible refine wpA_nil ?_ | with_reducible refine wpE_int ?_ | with_reducible refine wpE_none ?_ | with_reducible refine wpE_bool ?_ | with_reducible refine wpE_str ?_ | with_reducible refine r_addI ?_ | with_reducible refine r_subI ?_ | with_reducible refine r_small (by with_unfolding_all rfl) ?_ | with_reducible refine r_addL (by with_unfolding_all rfl) ?_ | ((with_reducible show wpE _ _ (.Name _ _) _ _); first | refine wpE_var 0 rfl ?_ | refine wpE_var 1 rfl ?_ | refine wpE_var 2 rfl ?_ | refine wpE_var 3 rfl ?_ | refine wpE_var 4 rfl ?_ | refine wpE_var 5 rfl ?_ | refine wpE_var 6 rfl ?_ | refine wpE_var 7 rfl ?_ | refine wpE_var 8 rfl ?_ | refine wpE_var 9 rfl ?_ | refine wpE_var 10 rfl ?_ | refine wpE_var 11 rfl ?_ | refine wpE_var 12 rfl ?_ | refine wpE_var 13 rfl ?_) | ((with_reducible show wpE _ _ (.Tuple _ _ _) _ _); refine wpE_tup ?_) | ((with_reducible show wpE _ _ (.List _ _) _ _); refine wpE_lst ?_) | ((with_reducible show wpE _ _ (.BinOp _ .Add _ _) _ _); refine wpE_bin op_addD ok_add ?_) | ((with_reducible show wpE _ _ (.BinOp _ .Sub _ _) _ _); refine wpE_bin op_sub ok_sub ?_) | ((with_reducible show wpE _ _ (.Dict [_, _] _ _) _ _); refine wpE_disp2 ?_) | ((with_reducible show wpE _ _ (.Dict [_] _ _) _ _); refine wpE_disp1 ?_) | with_reducible refine r_d2 (by decide +kernel) ?_ | with_reducible refine r_d1 ?_)
  refine wpE_bin op_pow ok_pow ?_
  repeat (first | ((with_reducible show wpA _ _ (_ :: _) _ _); refine wpA_cons ?_) | with_reducible refine wpA_nil ?_ | with_reducible refine wpE_int ?_ | with_reducible refine wpE_none ?_ | with_reducible refine wpE_bool ?_ | with_reducible refine wpE_str ?_ | with_reducible refine r_addI ?_ | with_reducible refine r_subI ?_ | with_reducible refine r_small (by with_unfolding_all rfl) ?_ | with_reducible refine r_addL (by with_unfolding_all rfl) ?_ | ((with_reducible show wpE _ _ (.Name _ _) _ _); first | refine wpE_var 0 rfl ?_ | refine wpE_var 1 rfl ?_ | refine wpE_var 2 rfl ?_ | refine wpE_var 3 rfl ?_ | refine wpE_var 4 rfl ?_ | refine wpE_var 5 rfl ?_ | refine wpE_var 6 rfl ?_ | refine wpE_var 7 rfl ?_ | refine wpE_var 8 rfl ?_ | refine wpE_var 9 rfl ?_ | refine wpE_var 10 rfl ?_ | refine wpE_var 11 rfl ?_ | refine wpE_var 12 rfl ?_ | refine wpE_var 13 rfl ?_) | ((with_reducible show wpE _ _ (.Tuple _ _ _) _ _); refine wpE_tup ?_) | ((with_reducible show wpE _ _ (.List _ _) _ _); refine wpE_lst ?_) | ((with_reducible show wpE _ _ (.BinOp _ .Add _ _) _ _); refine wpE_bin op_addD ok_add ?_) | ((with_reducible show wpE _ _ (.BinOp _ .Sub _ _) _ _); refine wpE_bin op_sub ok_sub ?_) | ((with_reducible show wpE _ _ (.Dict [_, _] _ _) _ _); refine wpE_disp2 ?_) | ((with_reducible show wpE _ _ (.Dict [_] _ _) _ _); refine wpE_disp1 ?_) | with_reducible refine r_d2 (by decide +kernel) ?_ | with_reducible refine r_d1 ?_)
  refine ⟨⟨by decide, by decide, by decide⟩, ?_⟩
  rw [p9]
  repeat (first | ((with_reducible show wpA _ _ (_ :: _) _ _); refine wpA_cons ?_) | with_reducible refine wpA_nil ?_ | with_reducible refine wpE_int ?_ | with_reducible refine wpE_none ?_ | with_reducible refine wpE_bool ?_ | with_reducible refine wpE_str ?_ | with_reducible refine r_addI ?_ | with_reducible refine r_subI ?_ | with_reducible refine r_small (by with_unfolding_all rfl) ?_ | with_reducible refine r_addL (by with_unfolding_all rfl) ?_ | ((with_reducible show wpE _ _ (.Name _ _) _ _); first | refine wpE_var 0 rfl ?_ | refine wpE_var 1 rfl ?_ | refine wpE_var 2 rfl ?_ | refine wpE_var 3 rfl ?_ | refine wpE_var 4 rfl ?_ | refine wpE_var 5 rfl ?_ | refine wpE_var 6 rfl ?_ | refine wpE_var 7 rfl ?_ | refine wpE_var 8 rfl ?_ | refine wpE_var 9 rfl ?_ | refine wpE_var 10 rfl ?_ | refine wpE_var 11 rfl ?_ | refine wpE_var 12 rfl ?_ | refine wpE_var 13 rfl ?_) | ((with_reducible show wpE _ _ (.Tuple _ _ _) _ _); refine wpE_tup ?_) | ((with_reducible show wpE _ _ (.List _ _) _ _); refine wpE_lst ?_) | ((with_reducible show wpE _ _ (.BinOp _ .Add _ _) _ _); refine wpE_bin op_addD ok_add ?_) | ((with_reducible show wpE _ _ (.BinOp _ .Sub _ _) _ _); refine wpE_bin op_sub ok_sub ?_) | ((with_reducible show wpE _ _ (.Dict [_, _] _ _) _ _); refine wpE_disp2 ?_) | ((with_reducible show wpE _ _ (.Dict [_] _ _) _ _); refine wpE_disp1 ?_) | with_reducible refine r_d2 (by decide +kernel) ?_ | with_reducible refine r_d1 ?_)
  refine r_pick rfl rfl fun y hy => ?_
  obtain ⟨t, rfl, t0, t1⟩ : ∃ t : Int, y = .int t ∧ 0 ≤ t ∧ t ≤ 1000000000 := by
    simp only [List.mem_cons, List.not_mem_nil, or_false] at hy
    rcases hy with rfl | rfl | rfl | rfl <;> exact ⟨_, rfl, by omega, by omega⟩
  show wpSs _ _ _ [some (.own .feed), some (.d (kindsD ks)), some (.d (.int t)), none, none, none] _
  refine wpSs_cons (wpS_set 3 (wpE_str ?_) scAL.nd)
  show wpSs _ _ _ [some (.own .feed), some (.d (kindsD ks)), some (.d (.int t)), some (.d (.str plSigns)), none, none] _
  refine wpSs_cons (wpS_set 4 (wpE_join (wpE_str ⟨_, rfl, ?_⟩)) scAL.nd)
  refine wpE_lc (c := none) 5 rfl (wpI_range m_range (wpA_cons ?_)) rfl scAL.nd (blkOk_by (N := nAL) (sc := defScope sAnyLine) (by decide +kernel)) rfl
  refine wpE_bin op_addD ok_add (wpE_int ?_)
  refine wpE_take 0 GT hr1 gT kT bT rfl (wpE_int ⟨_, rfl, by decide, by decide, fun n n0 n1 => ?_⟩)
  refine r_addI (wpA_nil ⟨_, rfl, ⟨by omega, by omega⟩, ?_⟩)
  refine ⟨?_, fun i acc => ∃ cs : List Nat, acc = (signs1 cs).map .str ∧ cs.length = i ∧ ∀ c ∈ cs, c ∈ plSigns.cps.toList, ⟨[], rfl, rfl, (fun _ z => nomatch z)⟩, fun i d acc hd hv z H C cl fp => ?_, fun acc hv => ?_⟩
  · rw [List.length_map, List.length_range]
    exact Nat.lt_of_le_of_lt (by omega : (1 + n).toNat ≤ 1000) (by decide)
  · obtain ⟨cs, rfl, hcl, hcs⟩ := hv
    refine wpE_pickS 0 GS hr gP kP bP rfl (wpE_var 3 rfl ⟨_, rfl, by decide +kernel, plSigns_ok, fun c hcm hc => ⟨cs ++ [c], ?_, ?_, ?_⟩⟩)
    · unfold signs1
      rw [List.map_append, List.map_append]
      rfl
    · rw [List.length_append, hcl]
      rfl
    · intro q hq
      rcases List.mem_append.mp hq with hq | hq
      · exact hcs q hq
      · rw [List.mem_singleton.mp hq]
        exact hcm
  · obtain ⟨cs, rfl, hcl, hcs⟩ := hv
    rw [List.length_map, List.length_range] at hcl
    have hs1 : ∀ cs : List Nat, ((signs1 cs).map fun x => x.length).sum = cs.length := by
      intro cs
      induction cs with
      | nil => rfl
      | cons a r ih =>
        show (1 + ((signs1 r).map fun x => x.length).sum) = r.length + 1
        rw [ih]
        omega
    refine ⟨signs1 cs, rfl, ?_, ?_⟩
    · rw [hs1]
      show cs.length + (signs1 cs).length * 0 ≤ 16777216
      omega
    obtain ⟨tx, etx⟩ : ∃ tx, tx = Txt.join Str.empty (signs1 cs) := ⟨_, rfl⟩
    have e0 : Txt.join ("" : Str) (signs1 cs) = tx := etx.symm
    rw [e0]
    have ecs : tx.cps.toList = cs := by rw [etx]; exact join_signs cs
    have etl : tx.length = cs.length := by
      have : tx.length = tx.cps.toList.length := (Array.length_toList).symm
      rw [this, ecs]
    have hwd : Wd tx := ⟨by omega, by omega, fun c hc => plSigns_rng c (hcs c (by rw [← ecs]; exact hc))⟩
    have hpw : wordOf plSigns (.str tx) = true := by
      show ((decide (1 ≤ tx.length) && decide (tx.length ≤ 8)) && tx.cps.toList.all fun c => decide (c ∈ plSigns.cps.toList)) = true
      rw [decide_eq_true hwd.pos, decide_eq_true hwd.le, ecs]
      exact List.all_eq_true.mpr fun c hc => decide_eq_true (hcs c hc)
    show wpSs _ _ _ [some (.own .feed), some (.d (kindsD ks)), some (.d (.int t)), some (.d (.str plSigns)), some (.d (.str tx)), none] _
    refine wpSs_one (wpS_ret ?_)
    repeat (first | ((with_reducible show wpA _ _ (_ :: _) _ _); refine wpA_cons ?_) | with_reducible refine wpA_nil ?_ | with_reducible refine wpE_int ?_ | with_reducible refine wpE_none ?_ | with_reducible refine wpE_bool ?_ | with_reducible refine wpE_str ?_ | with_reducible refine r_addI ?_ | with_reducible refine r_subI ?_ | with_reducible refine r_small (by with_unfolding_all rfl) ?_ | with_reducible refine r_addL (by with_unfolding_all rfl) ?_ | ((with_reducible show wpE _ _ (.Name _ _) _ _); first | refine wpE_var 0 rfl ?_ | refine wpE_var 1 rfl ?_ | refine wpE_var 2 rfl ?_ | refine wpE_var 3 rfl ?_ | refine wpE_var 4 rfl ?_ | refine wpE_var 5 rfl ?_ | refine wpE_var 6 rfl ?_ | refine wpE_var 7 rfl ?_ | refine wpE_var 8 rfl ?_ | refine wpE_var 9 rfl ?_ | refine wpE_var 10 rfl ?_ | refine wpE_var 11 rfl ?_ | refine wpE_var 12 rfl ?_ | refine wpE_var 13 rfl ?_) | ((with_reducible show wpE _ _ (.Tuple _ _ _) _ _); refine wpE_tup ?_) | ((with_reducible show wpE _ _ (.List _ _) _ _); refine wpE_lst ?_) | ((with_reducible show wpE _ _ (.BinOp _ .Add _ _) _ _); refine wpE_bin op_addD ok_add ?_) | ((with_reducible show wpE _ _ (.BinOp _ .Sub _ _) _ _); refine wpE_bin op_sub ok_sub ?_) | ((with_reducible show wpE _ _ (.Dict [_, _] _ _) _ _); refine wpE_disp2 ?_) | ((with_reducible show wpE _ _ (.Dict [_] _ _) _ _); refine wpE_disp1 ?_) | with_reducible refine r_d2 (by decide +kernel) ?_ | with_reducible refine r_d1 ?_)
    refine wpE_pick 0 GP hr gP kP bP rfl (wpE_bin op_addD ok_add (wpE_callB (call_sortedD rfl) ok_sortD m_sorted boot_sorted' (wpA_cons (wpE_var 1 rfl (wpA_nil ?_)))))
    have hl8 := hk.len
    refine ⟨_, ks.map (·.1), rfl, keys_kinds ks, by rw [List.length_map]; omega, fun ys hys => ?_⟩
    have hyl : ys.length = ks.length := by rw [hys.length_eq, List.length_map]
    repeat (first | ((with_reducible show wpA _ _ (_ :: _) _ _); refine wpA_cons ?_) | with_reducible refine wpA_nil ?_ | with_reducible refine wpE_int ?_ | with_reducible refine wpE_none ?_ | with_reducible refine wpE_bool ?_ | with_reducible refine wpE_str ?_ | with_reducible refine r_addI ?_ | with_reducible refine r_subI ?_ | with_reducible refine r_small (by with_unfolding_all rfl) ?_ | with_reducible refine r_addL (by with_unfolding_all rfl) ?_ | ((with_reducible show wpE _ _ (.Name _ _) _ _); first | refine wpE_var 0 rfl ?_ | refine wpE_var 1 rfl ?_ | refine wpE_var 2 rfl ?_ | refine wpE_var 3 rfl ?_ | refine wpE_var 4 rfl ?_ | refine wpE_var 5 rfl ?_ | refine wpE_var 6 rfl ?_ | refine wpE_var 7 rfl ?_ | refine wpE_var 8 rfl ?_ | refine wpE_var 9 rfl ?_ | refine wpE_var 10 rfl ?_ | refine wpE_var 11 rfl ?_ | refine wpE_var 12 rfl ?_ | refine wpE_var 13 rfl ?_) | ((with_reducible show wpE _ _ (.Tuple _ _ _) _ _); refine wpE_tup ?_) | ((with_reducible show wpE _ _ (.List _ _) _ _); refine wpE_lst ?_) | ((with_reducible show wpE _ _ (.BinOp _ .Add _ _) _ _); refine wpE_bin op_addD ok_add ?_) | ((with_reducible show wpE _ _ (.BinOp _ .Sub _ _) _ _); refine wpE_bin op_sub ok_sub ?_) | ((with_reducible show wpE _ _ (.Dict [_, _] _ _) _ _); refine wpE_disp2 ?_) | ((with_reducible show wpE _ _ (.Dict [_] _ _) _ _); refine wpE_disp1 ?_) | with_reducible refine r_d2 (by decide +kernel) ?_ | with_reducible refine r_d1 ?_)
    refine ⟨le_line (by rw [List.length_map]; show ys.length + 1 ≤ 1000; omega), ?_⟩
    refine ⟨_, rfl, (fun z => ?_), ?_, fun y hy => ?_⟩
    · have := congrArg List.length z
      rw [List.length_append] at this
      exact absurd this (by show ¬ _ + 1 = 0; omega)
    · rw [List.length_append, List.length_map]
      show ys.length + 1 < 1073741824
      omega
    obtain ⟨kd, rfl, hkd⟩ : ∃ kd : Option Str, y = oS kd ∧ ∀ k, kd = some k → k ∈ ks.map (·.1) := by
      rcases List.mem_append.mp hy with hy | hy
      · obtain ⟨k, hk', rfl⟩ := List.mem_map.mp hy
        exact ⟨some k, rfl, fun _ e => by cases e; exact hys.mem_iff.mp hk'⟩
      · rw [List.mem_singleton.mp hy]
        exact ⟨none, rfl, fun _ e => by cases e⟩
    repeat (first | ((with_reducible show wpA _ _ (_ :: _) _ _); refine wpA_cons ?_) | with_reducible refine wpA_nil ?_ | with_reducible refine wpE_int ?_ | with_reducible refine wpE_none ?_ | with_reducible refine wpE_bool ?_ | with_reducible refine wpE_str ?_ | with_reducible refine r_addI ?_ | with_reducible refine r_subI ?_ | with_reducible refine r_small (by with_unfolding_all rfl) ?_ | with_reducible refine r_addL (by with_unfolding_all rfl) ?_ | ((with_reducible show wpE _ _ (.Name _ _) _ _); first | refine wpE_var 0 rfl ?_ | refine wpE_var 1 rfl ?_ | refine wpE_var 2 rfl ?_ | refine wpE_var 3 rfl ?_ | refine wpE_var 4 rfl ?_ | refine wpE_var 5 rfl ?_ | refine wpE_var 6 rfl ?_ | refine wpE_var 7 rfl ?_ | refine wpE_var 8 rfl ?_ | refine wpE_var 9 rfl ?_ | refine wpE_var 10 rfl ?_ | refine wpE_var 11 rfl ?_ | refine wpE_var 12 rfl ?_ | refine wpE_var 13 rfl ?_) | ((with_reducible show wpE _ _ (.Tuple _ _ _) _ _); refine wpE_tup ?_) | ((with_reducible show wpE _ _ (.List _ _) _ _); refine wpE_lst ?_) | ((with_reducible show wpE _ _ (.BinOp _ .Add _ _) _ _); refine wpE_bin op_addD ok_add ?_) | ((with_reducible show wpE _ _ (.BinOp _ .Sub _ _) _ _); refine wpE_bin op_sub ok_sub ?_) | ((with_reducible show wpE _ _ (.Dict [_, _] _ _) _ _); refine wpE_disp2 ?_) | ((with_reducible show wpE _ _ (.Dict [_] _ _) _ _); refine wpE_disp1 ?_) | with_reducible refine r_d2 (by decide +kernel) ?_ | with_reducible refine r_d1 ?_)
    refine wpE_pick 0 GP hr gP kP bP rfl ?_
    repeat (first | ((with_reducible show wpA _ _ (_ :: _) _ _); refine wpA_cons ?_) | with_reducible refine wpA_nil ?_ | with_reducible refine wpE_int ?_ | with_reducible refine wpE_none ?_ | with_reducible refine wpE_bool ?_ | with_reducible refine wpE_str ?_ | with_reducible refine r_addI ?_ | with_reducible refine r_subI ?_ | with_reducible refine r_small (by with_unfolding_all rfl) ?_ | with_reducible refine r_addL (by with_unfolding_all rfl) ?_ | ((with_reducible show wpE _ _ (.Name _ _) _ _); first | refine wpE_var 0 rfl ?_ | refine wpE_var 1 rfl ?_ | refine wpE_var 2 rfl ?_ | refine wpE_var 3 rfl ?_ | refine wpE_var 4 rfl ?_ | refine wpE_var 5 rfl ?_ | refine wpE_var 6 rfl ?_ | refine wpE_var 7 rfl ?_ | refine wpE_var 8 rfl ?_ | refine wpE_var 9 rfl ?_ | refine wpE_var 10 rfl ?_ | refine wpE_var 11 rfl ?_ | refine wpE_var 12 rfl ?_ | refine wpE_var 13 rfl ?_) | ((with_reducible show wpE _ _ (.Tuple _ _ _) _ _); refine wpE_tup ?_) | ((with_reducible show wpE _ _ (.List _ _) _ _); refine wpE_lst ?_) | ((with_reducible show wpE _ _ (.BinOp _ .Add _ _) _ _); refine wpE_bin op_addD ok_add ?_) | ((with_reducible show wpE _ _ (.BinOp _ .Sub _ _) _ _); refine wpE_bin op_sub ok_sub ?_) | ((with_reducible show wpE _ _ (.Dict [_, _] _ _) _ _); refine wpE_disp2 ?_) | ((with_reducible show wpE _ _ (.Dict [_] _ _) _ _); refine wpE_disp1 ?_) | with_reducible refine r_d2 (by decide +kernel) ?_ | with_reducible refine r_d1 ?_)
    refine r_pick rfl rfl fun y hy => ?_
    obtain ⟨pl, rfl, hpl⟩ : ∃ pl : Option Str, y = oS pl ∧ ∀ x, pl = some x → x = tx := by
      simp only [List.mem_cons, List.not_mem_nil, or_false] at hy
      rcases hy with rfl | rfl
      · exact ⟨none, rfl, fun _ e => by cases e⟩
      · exact ⟨some tx, rfl, fun _ e => by cases e; rfl⟩
    repeat (first | ((with_reducible show wpA _ _ (_ :: _) _ _); refine wpA_cons ?_) | with_reducible refine wpA_nil ?_ | with_reducible refine wpE_int ?_ | with_reducible refine wpE_none ?_ | with_reducible refine wpE_bool ?_ | with_reducible refine wpE_str ?_ | with_reducible refine r_addI ?_ | with_reducible refine r_subI ?_ | with_reducible refine r_small (by with_unfolding_all rfl) ?_ | with_reducible refine r_addL (by with_unfolding_all rfl) ?_ | ((with_reducible show wpE _ _ (.Name _ _) _ _); first | refine wpE_var 0 rfl ?_ | refine wpE_var 1 rfl ?_ | refine wpE_var 2 rfl ?_ | refine wpE_var 3 rfl ?_ | refine wpE_var 4 rfl ?_ | refine wpE_var 5 rfl ?_ | refine wpE_var 6 rfl ?_ | refine wpE_var 7 rfl ?_ | refine wpE_var 8 rfl ?_ | refine wpE_var 9 rfl ?_ | refine wpE_var 10 rfl ?_ | refine wpE_var 11 rfl ?_ | refine wpE_var 12 rfl ?_ | refine wpE_var 13 rfl ?_) | ((with_reducible show wpE _ _ (.Tuple _ _ _) _ _); refine wpE_tup ?_) | ((with_reducible show wpE _ _ (.List _ _) _ _); refine wpE_lst ?_) | ((with_reducible show wpE _ _ (.BinOp _ .Add _ _) _ _); refine wpE_bin op_addD ok_add ?_) | ((with_reducible show wpE _ _ (.BinOp _ .Sub _ _) _ _); refine wpE_bin op_sub ok_sub ?_) | ((with_reducible show wpE _ _ (.Dict [_, _] _ _) _ _); refine wpE_disp2 ?_) | ((with_reducible show wpE _ _ (.Dict [_] _ _) _ _); refine wpE_disp1 ?_) | with_reducible refine r_d2 (by decide +kernel) ?_ | with_reducible refine r_d1 ?_)
    refine ⟨ks, ⟨t, kd, pl⟩, rfl, rfl, ⟨⟨t0, t1, fun x e => ?_, fun x e => by rw [hpl x e]; exact hwd⟩, hkd, fun x e => by rw [hpl x e]; exact hpw⟩⟩
    obtain ⟨q, hq, rfl⟩ := List.mem_map.mp (hkd x e)
    exact hk.nm q hq
abbrev GAnyLine (P : Program) (w : World) (K : PySem.W.Frag) (mg : Str → Option Value) (base : Heap) (Tb : List Addr) (f : Addr) (fd : FuncData) : Prop := FnOk P w K mg base CX0 3 f fd ["feed", "kinds"] (spD Tb 1 1 preAL postAL)
end
end K80

set_option Elab.async false
set_option linter.all false
set_option maxRecDepth 100000
set_option maxHeartbeats 1000000
namespace K80
open PySem PySem.Spec L2 DL
section
variable {P : Program} {w : World} {K : PySem.W.Frag} {mg : Str → Option Value} {base : Heap} {Tb : List Addr}
theorem kindsD_inj {a b : Kinds} (h : kindsD a = kindsD b) : a = b := by
  have h : (a.map fun k => ((.str k.1 : D), (.tuple [.int k.2.1, .int k.2.2] : D))) = b.map fun k => (.str k.1, .tuple [.int k.2.1, .int k.2.2]) := PyData.dict.inj h
  revert b
  induction a with
  | nil =>
    intro b h _
    cases b with
    | nil => rfl
    | cons _ _ => cases h
  | cons x xs ih =>
    intro b h hh
    cases b with
    | nil => cases hh
    | cons y ys =>
      rw [List.map_cons, List.map_cons] at hh
      obtain ⟨h1, h2⟩ := List.cons.inj hh
      obtain ⟨h3, h4⟩ := Prod.mk.inj h1
      have h5 := PyData.str.inj h3
      have h6 := PyData.tuple.inj h4
      obtain ⟨h7, h8⟩ := List.cons.inj h6
      obtain ⟨h9, _⟩ := List.cons.inj h8
      have e1 := PyData.int.inj h7
      have e2 := PyData.int.inj h9
      rw [ih (by unfold kindsD; rw [h2]) h2]
      obtain ⟨x1, x2, x3⟩ := x
      obtain ⟨y1, y2, y3⟩ := y
      simp only at h5 e1 e2
      rw [h5, e1, e2]
structure LogK (ks : Kinds) (lg : Log) : Prop where
  en : ∀ l ∈ lg.entries, LnK ks l
  ex : ∀ l ∈ lg.exits, LnK ks l
  ln : lg.entries.length ≤ 80
  lx : lg.exits.length ≤ 80
  ef : FlOk lg.ef
  xf : FlOk lg.xf
theorem LogK.ok {ks : Kinds} {lg : Log} (h : LogK ks lg) : LogOk lg := ⟨fun l hl => (h.en l hl).ok, fun l hl => (h.ex l hl).ok, h.ln, h.lx, h.ef, h.xf⟩
abbrev preLg : List D → Prop := fun ds => ∃ ks : Kinds, ds = [kindsD ks, .int 6] ∧ GoodK ks
abbrev postLg : List D → D → Prop := fun ds d => ∃ (ks : Kinds) (lg : Log), ds = [kindsD ks, .int 6] ∧ d = logD lg ∧ LogK ks lg
abbrev nLg : List Str := ["feed", "kinds", "most", "lines", "gate", "k", "floors"]
theorem scLg : FnScope nLg ["feed", "kinds", "most"] (defScope sAnyLog) := ⟨rfl, rfl, rfl, by decide +kernel, rfl, by decide +kernel, by decide +kernel⟩
theorem ok_anyLog {f c : Addr} {fd : FuncData} (F : FunC K "_law_any_log" "_law_any_log" sAnyLog f c fd) (m_range : mg "range" = none)
    {fT : Addr} {fdT : FuncData} (GT : GTake P w K mg base Tb fT fdT) (gT : mg "_law_take" = some (.ref fT)) (kT : PySem.W.keepIn K (.ref fT) = true) (bT : Binds K fdT ["feed", "size"] [])
    {fP : Addr} {fdP : FuncData} (GP : GPick P w K mg base Tb fP fdP) (gP : mg "_law_pick" = some (.ref fP)) (kP : PySem.W.keepIn K (.ref fP) = true) (bP : Binds K fdP ["feed", "choices"] [])
    {fN : Addr} {fdN : FuncData} (GN : GAnyLine P w K mg base Tb fN fdN) (gN : mg "_law_any_line" = some (.ref fN)) (kN : PySem.W.keepIn K (.ref fN) = true) (bN : Binds K fdN ["feed", "kinds"] []) :
    FnOk P w K mg base CX0 4 f fd ["feed", "kinds", "most"] (spD Tb 1 2 preLg postLg) := by
  refine fn_ok F scLg (by decide) rfl fun A outer s H E ds hr hl hp => ?_
  obtain ⟨ks, rfl, hk⟩ := hp
  have hr1 : Room 1 (A.deeper (PyProof.Rows.envOfC "_law_any_log" (defScope sAnyLog) s.heap.objs.size f (.ref c))) := hr.mono (by decide)
  refine wpSs_cons (wpS_setLc (c := none) 3 4 rfl (wpI_range m_range (wpA_cons (wpE_int (wpA_nil ⟨_, rfl, ⟨by decide, by decide⟩, ?_⟩)))) rfl scLg.nd (blkOk_by (N := nLg) (sc := defScope sAnyLog) (by decide +kernel)) rfl)
  refine ⟨by decide, fun i acc => ∃ lss : List (List Line), acc = lss.map (fun ls => .list (ls.map lineD)) ∧ lss.length = i ∧ ∀ ls ∈ lss, ls.length ≤ 6 ∧ ∀ l ∈ ls, LnK ks l, ⟨[], rfl, rfl, (fun _ z => nomatch z)⟩, fun i d acc hd hv z H C cl fp => ?_, fun acc hv => ?_⟩
  · obtain ⟨lss, rfl, hll, hls⟩ := hv
    refine wpE_lc (c := none) 5 rfl (wpI_range m_range (wpA_cons ?_)) rfl scLg.nd (blkOk_by (N := nLg) (by kernel_rfl)) rfl
    refine wpE_take 0 GT hr1 gT kT bT rfl (wpE_bin op_addD ok_add (wpE_var 2 rfl (wpE_int (r_addI ⟨_, rfl, by decide, by decide, fun n n0 n1 => ?_⟩))))
    refine wpA_nil ⟨_, rfl, ⟨by omega, by omega⟩, ?_⟩
    refine ⟨?_, fun i acc => ∃ ls : List Line, acc = ls.map lineD ∧ ls.length = i ∧ ∀ l ∈ ls, LnK ks l, ⟨[], rfl, rfl, (fun _ z => nomatch z)⟩, fun i d acc hd hv z H C cl fp => ?_, fun acc hv => ?_⟩
    · rw [List.length_map, List.length_range]
      exact Nat.lt_of_le_of_lt (by omega : n.toNat ≤ 1000) (by decide)
    · obtain ⟨ls, rfl, hl1, hl2⟩ := hv
      refine wpE_callF 0 GN hr gN kN bN rfl (wpA_cons (wpE_var 1 rfl (wpA_nil ⟨rfl, ⟨ks, rfl, hk⟩, fun y hy => ?_⟩)))
      obtain ⟨ks', l, e1, rfl, hl3⟩ := hy
      have e2 := kindsD_inj (List.cons.inj e1).1
      subst e2
      refine ⟨ls ++ [l], by rw [List.map_append]; rfl, by rw [List.length_append, hl1]; rfl, fun q hq => ?_⟩
      rcases List.mem_append.mp hq with hq | hq
      · exact hl2 q hq
      · rw [List.mem_singleton.mp hq]
        exact hl3
    · obtain ⟨ls, rfl, hl1, hl2⟩ := hv
      rw [List.length_map, List.length_range] at hl1
      refine ⟨lss ++ [ls], by rw [List.map_append]; rfl, by rw [List.length_append, hll]; rfl, fun q hq => ?_⟩
      rcases List.mem_append.mp hq with hq | hq
      · exact hls q hq
      · rw [List.mem_singleton.mp hq]
        exact ⟨by omega, hl2⟩
  · obtain ⟨lss, rfl, hll, hls⟩ := hv
    have hll2 : lss.length = 2 := hll
    obtain ⟨en, ex, rfl⟩ : ∃ en ex, lss = [en, ex] := match lss, hll2 with
      | [a, b], _ => ⟨a, b, rfl⟩
    have hen := hls en List.mem_cons_self
    have hex := hls ex (List.mem_cons_of_mem _ List.mem_cons_self)
    show wpSs _ _ _ [some (.own .feed), some (.d (kindsD ks)), some (.d (.int 6)), some (.d (.list [.list (en.map lineD), .list (ex.map lineD)])), none, none, none] _
    refine wpSs_cons (wpS_setLc (c := none) 6 4 rfl (wpI_range m_range (wpA_cons (wpE_int (wpA_nil ⟨_, rfl, ⟨by decide, by decide⟩, ?_⟩)))) rfl scLg.nd (blkOk_by (N := nLg) (sc := defScope sAnyLog) (by decide +kernel)) rfl)
    refine ⟨by decide, fun i acc => ∃ fs : List (Option Int), acc = fs.map floorD ∧ fs.length = i ∧ ∀ x ∈ fs, FlOk x, ⟨[], rfl, rfl, (fun _ z => nomatch z)⟩, fun i d acc hd hv z H C cl fp => ?_, fun acc hv => ?_⟩
    · obtain ⟨fs, rfl, hf1, hf2⟩ := hv
      refine wpE_pick 0 GP (hr.mono (by decide)) gP kP bP rfl ?_
      repeat (first | ((with_reducible show wpA _ _ (_ :: _) _ _); refine wpA_cons ?_) | with_reducible refine wpA_nil ?_ | with_reducible refine wpE_int ?_ | with_reducible refine wpE_none ?_ | with_reducible refine wpE_bool ?_ | with_reducible refine wpE_str ?_ | with_reducible refine r_addI ?_ | with_reducible refine r_subI ?_ | with_reducible refine r_small (by with_unfolding_all rfl) ?_ | with_reducible refine r_addL (by with_unfolding_all rfl) ?_ | ((with_reducible show wpE _ _ (.Name _ _) _ _); first | refine wpE_var 0 rfl ?_ | refine wpE_var 1 rfl ?_ | refine wpE_var 2 rfl ?_ | refine wpE_var 3 rfl ?_ | refine wpE_var 4 rfl ?_ | refine wpE_var 5 rfl ?_ | refine wpE_var 6 rfl ?_ | refine wpE_var 7 rfl ?_ | refine wpE_var 8 rfl ?_ | refine wpE_var 9 rfl ?_ | refine wpE_var 10 rfl ?_ | refine wpE_var 11 rfl ?_ | refine wpE_var 12 rfl ?_ | refine wpE_var 13 rfl ?_) | ((with_reducible show wpE _ _ (.Tuple _ _ _) _ _); refine wpE_tup ?_) | ((with_reducible show wpE _ _ (.List _ _) _ _); refine wpE_lst ?_) | ((with_reducible show wpE _ _ (.BinOp _ .Add _ _) _ _); refine wpE_bin op_addD ok_add ?_) | ((with_reducible show wpE _ _ (.BinOp _ .Sub _ _) _ _); refine wpE_bin op_sub ok_sub ?_) | ((with_reducible show wpE _ _ (.Dict [_, _] _ _) _ _); refine wpE_disp2 ?_) | ((with_reducible show wpE _ _ (.Dict [_] _ _) _ _); refine wpE_disp1 ?_) | with_reducible refine r_d2 (by decide +kernel) ?_ | with_reducible refine r_d1 ?_)
      refine wpE_take 0 GT hr1 gT kT bT rfl ?_
      refine wpE_bin op_addD ok_add (wpE_bin op_pow ok_pow ?_)
      repeat (first | ((with_reducible show wpA _ _ (_ :: _) _ _); refine wpA_cons ?_) | with_reducible refine wpA_nil ?_ | with_reducible refine wpE_int ?_ | with_reducible refine wpE_none ?_ | with_reducible refine wpE_bool ?_ | with_reducible refine wpE_str ?_ | with_reducible refine r_addI ?_ | with_reducible refine r_subI ?_ | with_reducible refine r_small (by with_unfolding_all rfl) ?_ | with_reducible refine r_addL (by with_unfolding_all rfl) ?_ | ((with_reducible show wpE _ _ (.Name _ _) _ _); first | refine wpE_var 0 rfl ?_ | refine wpE_var 1 rfl ?_ | refine wpE_var 2 rfl ?_ | refine wpE_var 3 rfl ?_ | refine wpE_var 4 rfl ?_ | refine wpE_var 5 rfl ?_ | refine wpE_var 6 rfl ?_ | refine wpE_var 7 rfl ?_ | refine wpE_var 8 rfl ?_ | refine wpE_var 9 rfl ?_ | refine wpE_var 10 rfl ?_ | refine wpE_var 11 rfl ?_ | refine wpE_var 12 rfl ?_ | refine wpE_var 13 rfl ?_) | ((with_reducible show wpE _ _ (.Tuple _ _ _) _ _); refine wpE_tup ?_) | ((with_reducible show wpE _ _ (.List _ _) _ _); refine wpE_lst ?_) | ((with_reducible show wpE _ _ (.BinOp _ .Add _ _) _ _); refine wpE_bin op_addD ok_add ?_) | ((with_reducible show wpE _ _ (.BinOp _ .Sub _ _) _ _); refine wpE_bin op_sub ok_sub ?_) | ((with_reducible show wpE _ _ (.Dict [_, _] _ _) _ _); refine wpE_disp2 ?_) | ((with_reducible show wpE _ _ (.Dict [_] _ _) _ _); refine wpE_disp1 ?_) | with_reducible refine r_d2 (by decide +kernel) ?_ | with_reducible refine r_d1 ?_)
      refine ⟨⟨by decide, by decide, by decide⟩, ?_⟩
      rw [p9]
      repeat (first | ((with_reducible show wpA _ _ (_ :: _) _ _); refine wpA_cons ?_) | with_reducible refine wpA_nil ?_ | with_reducible refine wpE_int ?_ | with_reducible refine wpE_none ?_ | with_reducible refine wpE_bool ?_ | with_reducible refine wpE_str ?_ | with_reducible refine r_addI ?_ | with_reducible refine r_subI ?_ | with_reducible refine r_small (by with_unfolding_all rfl) ?_ | with_reducible refine r_addL (by with_unfolding_all rfl) ?_ | ((with_reducible show wpE _ _ (.Name _ _) _ _); first | refine wpE_var 0 rfl ?_ | refine wpE_var 1 rfl ?_ | refine wpE_var 2 rfl ?_ | refine wpE_var 3 rfl ?_ | refine wpE_var 4 rfl ?_ | refine wpE_var 5 rfl ?_ | refine wpE_var 6 rfl ?_ | refine wpE_var 7 rfl ?_ | refine wpE_var 8 rfl ?_ | refine wpE_var 9 rfl ?_ | refine wpE_var 10 rfl ?_ | refine wpE_var 11 rfl ?_ | refine wpE_var 12 rfl ?_ | refine wpE_var 13 rfl ?_) | ((with_reducible show wpE _ _ (.Tuple _ _ _) _ _); refine wpE_tup ?_) | ((with_reducible show wpE _ _ (.List _ _) _ _); refine wpE_lst ?_) | ((with_reducible show wpE _ _ (.BinOp _ .Add _ _) _ _); refine wpE_bin op_addD ok_add ?_) | ((with_reducible show wpE _ _ (.BinOp _ .Sub _ _) _ _); refine wpE_bin op_sub ok_sub ?_) | ((with_reducible show wpE _ _ (.Dict [_, _] _ _) _ _); refine wpE_disp2 ?_) | ((with_reducible show wpE _ _ (.Dict [_] _ _) _ _); refine wpE_disp1 ?_) | with_reducible refine r_d2 (by decide +kernel) ?_ | with_reducible refine r_d1 ?_)
      refine ⟨_, rfl, by decide, by decide, fun z2 z20 z21 => ?_⟩
      repeat (first | ((with_reducible show wpA _ _ (_ :: _) _ _); refine wpA_cons ?_) | with_reducible refine wpA_nil ?_ | with_reducible refine wpE_int ?_ | with_reducible refine wpE_none ?_ | with_reducible refine wpE_bool ?_ | with_reducible refine wpE_str ?_ | with_reducible refine r_addI ?_ | with_reducible refine r_subI ?_ | with_reducible refine r_small (by with_unfolding_all rfl) ?_ | with_reducible refine r_addL (by with_unfolding_all rfl) ?_ | ((with_reducible show wpE _ _ (.Name _ _) _ _); first | refine wpE_var 0 rfl ?_ | refine wpE_var 1 rfl ?_ | refine wpE_var 2 rfl ?_ | refine wpE_var 3 rfl ?_ | refine wpE_var 4 rfl ?_ | refine wpE_var 5 rfl ?_ | refine wpE_var 6 rfl ?_ | refine wpE_var 7 rfl ?_ | refine wpE_var 8 rfl ?_ | refine wpE_var 9 rfl ?_ | refine wpE_var 10 rfl ?_ | refine wpE_var 11 rfl ?_ | refine wpE_var 12 rfl ?_ | refine wpE_var 13 rfl ?_) | ((with_reducible show wpE _ _ (.Tuple _ _ _) _ _); refine wpE_tup ?_) | ((with_reducible show wpE _ _ (.List _ _) _ _); refine wpE_lst ?_) | ((with_reducible show wpE _ _ (.BinOp _ .Add _ _) _ _); refine wpE_bin op_addD ok_add ?_) | ((with_reducible show wpE _ _ (.BinOp _ .Sub _ _) _ _); refine wpE_bin op_sub ok_sub ?_) | ((with_reducible show wpE _ _ (.Dict [_, _] _ _) _ _); refine wpE_disp2 ?_) | ((with_reducible show wpE _ _ (.Dict [_] _ _) _ _); refine wpE_disp1 ?_) | with_reducible refine r_d2 (by decide +kernel) ?_ | with_reducible refine r_d1 ?_)
      refine wpE_bin op_pow ok_pow ?_
      repeat (first | ((with_reducible show wpA _ _ (_ :: _) _ _); refine wpA_cons ?_) | with_reducible refine wpA_nil ?_ | with_reducible refine wpE_int ?_ | with_reducible refine wpE_none ?_ | with_reducible refine wpE_bool ?_ | with_reducible refine wpE_str ?_ | with_reducible refine r_addI ?_ | with_reducible refine r_subI ?_ | with_reducible refine r_small (by with_unfolding_all rfl) ?_ | with_reducible refine r_addL (by with_unfolding_all rfl) ?_ | ((with_reducible show wpE _ _ (.Name _ _) _ _); first | refine wpE_var 0 rfl ?_ | refine wpE_var 1 rfl ?_ | refine wpE_var 2 rfl ?_ | refine wpE_var 3 rfl ?_ | refine wpE_var 4 rfl ?_ | refine wpE_var 5 rfl ?_ | refine wpE_var 6 rfl ?_ | refine wpE_var 7 rfl ?_ | refine wpE_var 8 rfl ?_ | refine wpE_var 9 rfl ?_ | refine wpE_var 10 rfl ?_ | refine wpE_var 11 rfl ?_ | refine wpE_var 12 rfl ?_ | refine wpE_var 13 rfl ?_) | ((with_reducible show wpE _ _ (.Tuple _ _ _) _ _); refine wpE_tup ?_) | ((with_reducible show wpE _ _ (.List _ _) _ _); refine wpE_lst ?_) | ((with_reducible show wpE _ _ (.BinOp _ .Add _ _) _ _); refine wpE_bin op_addD ok_add ?_) | ((with_reducible show wpE _ _ (.BinOp _ .Sub _ _) _ _); refine wpE_bin op_sub ok_sub ?_) | ((with_reducible show wpE _ _ (.Dict [_, _] _ _) _ _); refine wpE_disp2 ?_) | ((with_reducible show wpE _ _ (.Dict [_] _ _) _ _); refine wpE_disp1 ?_) | with_reducible refine r_d2 (by decide +kernel) ?_ | with_reducible refine r_d1 ?_)
      refine ⟨⟨by decide, by decide, by decide⟩, ?_⟩
      rw [p9]
      repeat (first | ((with_reducible show wpA _ _ (_ :: _) _ _); refine wpA_cons ?_) | with_reducible refine wpA_nil ?_ | with_reducible refine wpE_int ?_ | with_reducible refine wpE_none ?_ | with_reducible refine wpE_bool ?_ | with_reducible refine wpE_str ?_ | with_reducible refine r_addI ?_ | with_reducible refine r_subI ?_ | with_reducible refine r_small (by with_unfolding_all rfl) ?_ | with_reducible refine r_addL (by with_unfolding_all rfl) ?_ | ((with_reducible show wpE _ _ (.Name _ _) _ _); first | refine wpE_var 0 rfl ?_ | refine wpE_var 1 rfl ?_ | refine wpE_var 2 rfl ?_ | refine wpE_var 3 rfl ?_ | refine wpE_var 4 rfl ?_ | refine wpE_var 5 rfl ?_ | refine wpE_var 6 rfl ?_ | refine wpE_var 7 rfl ?_ | refine wpE_var 8 rfl ?_ | refine wpE_var 9 rfl ?_ | refine wpE_var 10 rfl ?_ | refine wpE_var 11 rfl ?_ | refine wpE_var 12 rfl ?_ | refine wpE_var 13 rfl ?_) | ((with_reducible show wpE _ _ (.Tuple _ _ _) _ _); refine wpE_tup ?_) | ((with_reducible show wpE _ _ (.List _ _) _ _); refine wpE_lst ?_) | ((with_reducible show wpE _ _ (.BinOp _ .Add _ _) _ _); refine wpE_bin op_addD ok_add ?_) | ((with_reducible show wpE _ _ (.BinOp _ .Sub _ _) _ _); refine wpE_bin op_sub ok_sub ?_) | ((with_reducible show wpE _ _ (.Dict [_, _] _ _) _ _); refine wpE_disp2 ?_) | ((with_reducible show wpE _ _ (.Dict [_] _ _) _ _); refine wpE_disp1 ?_) | with_reducible refine r_d2 (by decide +kernel) ?_ | with_reducible refine r_d1 ?_)
      refine r_pick rfl rfl fun y hy => ?_
      obtain ⟨fl, rfl, hfl⟩ : ∃ fl : Option Int, y = floorD fl ∧ FlOk fl := by
        simp only [List.mem_cons, List.not_mem_nil, or_false] at hy
        rcases hy with rfl | rfl | rfl | rfl
        · exact ⟨some 0, rfl, fun x e => by cases e; omega⟩
        · exact ⟨some z2, rfl, fun x e => by cases e; omega⟩
        · exact ⟨some 1000000000, rfl, fun x e => by cases e; omega⟩
        · exact ⟨none, rfl, fun x e => by cases e⟩
      refine ⟨fs ++ [fl], by rw [List.map_append]; rfl, by rw [List.length_append, hf1]; rfl, fun q hq => ?_⟩
      rcases List.mem_append.mp hq with hq | hq
      · exact hf2 q hq
      · rw [List.mem_singleton.mp hq]
        exact hfl
    · obtain ⟨fs, rfl, hf1, hf2⟩ := hv
      have hf12 : fs.length = 2 := hf1
      obtain ⟨ef, xf, rfl⟩ : ∃ a b, fs = [a, b] := match fs, hf12 with
        | [a, b], _ => ⟨a, b, rfl⟩
      show wpSs _ _ _ [some (.own .feed), some (.d (kindsD ks)), some (.d (.int 6)), some (.d (.list [.list (en.map lineD), .list (ex.map lineD)])), none, none, some (.d (.list [floorD ef, floorD xf]))] _
      refine wpSs_one (wpS_ret ?_)
      refine wpE_tup (wpA_cons (wpE_ix (wpE_var 3 rfl (wpE_int ⟨_, rfl, ?_⟩))))
      refine wpA_cons (wpE_ix (wpE_var 3 rfl (wpE_int ⟨_, rfl, ?_⟩)))
      refine wpA_cons (wpE_ix (wpE_var 6 rfl (wpE_int ⟨_, rfl, ?_⟩)))
      refine wpA_cons (wpE_ix (wpE_var 6 rfl (wpE_int ⟨_, rfl, ?_⟩)))
      exact wpA_nil ⟨by show 4 ≤ sizeLine; decide, ks, ⟨en, ex, ef, xf⟩, rfl, rfl, ⟨hen.2, hex.2, by show en.length ≤ 80; omega, by show ex.length ≤ 80; omega, hf2 ef List.mem_cons_self, hf2 xf (List.mem_cons_of_mem _ List.mem_cons_self)⟩⟩
abbrev GAnyLog (P : Program) (w : World) (K : PySem.W.Frag) (mg : Str → Option Value) (base : Heap) (Tb : List Addr) (f : Addr) (fd : FuncData) : Prop := FnOk P w K mg base CX0 4 f fd ["feed", "kinds", "most"] (spD Tb 1 2 preLg postLg)
end
end K80

set_option Elab.async false
set_option linter.all false
set_option maxRecDepth 100000
set_option maxHeartbeats 4000000
namespace K80
open PySem PySem.Spec L2 DL
section
variable {P : Program} {w : World} {K : PySem.W.Frag} {mg : Str → Option Value} {base : Heap} {Tb : List Addr}
theorem scIsInt : FnScope ["value", "low", "high"] ["value", "low", "high"] (defScope sIsInt) := ⟨rfl, rfl, rfl, by decide +kernel, rfl, by decide +kernel, by decide +kernel⟩
theorem ok_isInt {f c : Addr} {fd : FuncData} (F : FunC K "is_integer" "is_integer" sIsInt f c fd) (m_isi : mg "isinstance" = none) (m_int : mg "int" = none) (m_bool : mg "bool" = none) (d : D) (lo hi : Int) :
    FnOk P w K mg base CX0 1 f fd ["value", "low", "high"] (FnV Tb [d, .int lo, .int hi] (.bool (intIn lo hi d))) := by
  refine fn_ok F scIsInt (by decide) rfl fun A outer s H E ds hr hl hp => ?_
  subst hp
  refine wpSs_one (wpS_ret (wpE_and (wpE_isi (T := "int") m_isi m_int (by decide +kernel) (wpE_var 0 rfl ?_))))
  cases d with
  | none => exact ⟨false, (by show kitB "NoneType" "int" = some false; decide +kernel), false, rfl, iteF rfl⟩
  | str z => exact ⟨false, (by show kitB "str" "int" = some false; decide +kernel), false, rfl, iteF rfl⟩
  | list z => exact ⟨false, (by show kitB "list" "int" = some false; decide +kernel), false, rfl, iteF rfl⟩
  | tuple z => exact ⟨false, (by show kitB "tuple" "int" = some false; decide +kernel), false, rfl, iteF rfl⟩
  | dict z => exact ⟨false, (by show kitB "dict" "int" = some false; decide +kernel), false, rfl, iteF rfl⟩
  | bool b =>
    refine ⟨true, (by show kitB "bool" "int" = some true; decide +kernel), true, rfl, iteT ?_⟩
    exact wpE_and (wpE_not (wpE_isi (T := "bool") m_isi m_bool (by decide +kernel) (wpE_var 0 rfl ⟨true, (by show kitB "bool" "bool" = some true; decide +kernel), true, rfl, false, rfl, iteF rfl⟩)))
  | int i =>
    refine ⟨true, (by show kitB "int" "int" = some true; decide +kernel), true, rfl, iteT ?_⟩
    refine wpE_and (wpE_not (wpE_isi (T := "bool") m_isi m_bool (by decide +kernel) (wpE_var 0 rfl ⟨false, (by show kitB "int" "bool" = some false; decide +kernel), false, rfl, true, rfl, iteT ?_⟩)))
    refine wpE_one (wpE_chain op_le op_le ok_lt ok_lt (wpE_var 1 rfl (wpE_var 0 rfl (r_lt ⟨_, rfl, ?_⟩))))
    cases e1 : decide (lo ≤ i) with
    | false =>
      refine iteF ?_
      show PyData.bool false = PyData.bool (decide (lo ≤ i) && decide (i ≤ hi))
      rw [e1]
      rfl
    | true =>
      refine iteT (wpE_var 2 rfl (r_lt ?_))
      show PyData.bool (decide (i ≤ hi)) = PyData.bool (decide (lo ≤ i) && decide (i ≤ hi))
      rw [e1]
      rfl
theorem scIsTup : FnScope ["value", "size"] ["value", "size"] (defScope sIsTup) := ⟨rfl, rfl, rfl, by decide +kernel, rfl, by decide +kernel, by decide +kernel⟩
theorem ok_isTup {f c : Addr} {fd : FuncData} (F : FunC K "is_tuple" "is_tuple" sIsTup f c fd) (m_isi : mg "isinstance" = none) (m_tup : mg "tuple" = none) (m_len : mg "len" = none) (d : D) (n : Nat) :
    FnOk P w K mg base CX0 1 f fd ["value", "size"] (FnV Tb [d, .int (n : Nat)] (.bool (tupN n d))) := by
  refine fn_ok F scIsTup (by decide) rfl fun A outer s H E ds hr hl hp => ?_
  subst hp
  refine wpSs_one (wpS_ret (wpE_and (wpE_isi (T := "tuple") m_isi m_tup (by decide +kernel) (wpE_var 0 rfl ?_))))
  cases d with
  | none => exact ⟨false, (by show kitB "NoneType" "tuple" = some false; decide +kernel), false, rfl, iteF rfl⟩
  | bool b => exact ⟨false, (by show kitB "bool" "tuple" = some false; decide +kernel), false, rfl, iteF rfl⟩
  | int b => exact ⟨false, (by show kitB "int" "tuple" = some false; decide +kernel), false, rfl, iteF rfl⟩
  | str z => exact ⟨false, (by show kitB "str" "tuple" = some false; decide +kernel), false, rfl, iteF rfl⟩
  | list z => exact ⟨false, (by show kitB "list" "tuple" = some false; decide +kernel), false, rfl, iteF rfl⟩
  | dict z => exact ⟨false, (by show kitB "dict" "tuple" = some false; decide +kernel), false, rfl, iteF rfl⟩
  | tuple z =>
    refine ⟨true, (by show kitB "tuple" "tuple" = some true; decide +kernel), true, rfl, iteT ?_⟩
    refine wpE_one (wpE_cmp (op_eqDD hr.units) ok_eq (nomark _) (wpE_callB call_lenX ok_len m_len boot_len' (wpA_cons (wpE_var 0 rfl (wpA_nil ⟨(fun _ z => nomatch z), ?_⟩)))))
    refine r_lenT (wpE_var 1 rfl (r_eqI ?_))
    show PyData.bool _ = PyData.bool (decide (z.length = n))
    congr 1
    exact decide_eq_decide.mpr ⟨fun h => Int.ofNat_inj.mp h, fun h => by rw [h]⟩
theorem scIsWord : FnScope ["value", "signs"] ["value", "signs"] (defScope sIsWord) := ⟨rfl, rfl, rfl, by decide +kernel, rfl, by decide +kernel, by decide +kernel⟩
def onSign (t : Nat → Bool) : D → Bool
  | .str ⟨#[c]⟩ => t c
  | _ => false
theorem all_signs (t : Nat → Bool) (z : Str) : (signsD z).all (onSign t) = z.cps.toList.all t := by
  unfold signsD
  rw [List.all_map]
  rfl
theorem ok_isWord {f c Pt : Addr} {fd : FuncData} (F : FunC K "is_word" "is_word" sIsWord f c fd) (TB : GxR.TabB base mg c Pt) (hP : Pt ∈ Tb) (m_isi : mg "isinstance" = none) (m_str : mg "str" = none) (m_len : mg "len" = none) (m_all : mg "all" = none) (d : D) (sg : Str) (hd : shortS d) :
    FnOk P w K mg base CX0 2 f fd ["value", "signs"] (FnV Tb [d, .str sg] (.bool (wordOf sg d))) := by
  refine fn_ok F scIsWord (by decide) rfl fun A outer s H E ds hr hl hp => ?_
  subst hp
  refine wpSs_one (wpS_ret (wpE_and (wpE_isi (T := "str") m_isi m_str (by decide +kernel) (wpE_var 0 rfl ?_))))
  cases d with
  | none => exact ⟨false, (by show kitB "NoneType" "str" = some false; decide +kernel), false, rfl, iteF rfl⟩
  | bool b => exact ⟨false, (by show kitB "bool" "str" = some false; decide +kernel), false, rfl, iteF rfl⟩
  | int b => exact ⟨false, (by show kitB "int" "str" = some false; decide +kernel), false, rfl, iteF rfl⟩
  | tuple z => exact ⟨false, (by show kitB "tuple" "str" = some false; decide +kernel), false, rfl, iteF rfl⟩
  | list z => exact ⟨false, (by show kitB "list" "str" = some false; decide +kernel), false, rfl, iteF rfl⟩
  | dict z => exact ⟨false, (by show kitB "dict" "str" = some false; decide +kernel), false, rfl, iteF rfl⟩
  | str z =>
    refine ⟨true, (by show kitB "str" "str" = some true; decide +kernel), true, rfl, iteT ?_⟩
    refine wpE_and (wpE_chain op_le op_le ok_lt ok_lt (wpE_int (wpE_callB call_lenX ok_len m_len boot_len' (wpA_cons (wpE_var 0 rfl (wpA_nil ⟨(fun _ z => nomatch z), ?_⟩))))))
    refine r_lenS hd (r_lt ⟨_, rfl, ?_⟩)
    have e1 : wordOf sg (.str z) = ((decide ((1 : Int) ≤ (z.length : Nat)) && decide (((z.length : Nat) : Int) ≤ 8)) && z.cps.toList.all fun c => decide (c ∈ sg.cps.toList)) := by
      show ((decide (1 ≤ z.length) && decide (z.length ≤ 8)) && _) = _
      congr 1
      congr 1
      · exact decide_eq_decide.mpr (by omega)
      · exact decide_eq_decide.mpr (by omega)
    rw [e1]
    cases decide ((1 : Int) ≤ (z.length : Nat)) with
    | false => exact iteF ⟨false, rfl, iteF rfl⟩
    | true =>
      refine iteT (wpE_int (r_lt ⟨_, rfl, ?_⟩))
      cases decide (((z.length : Nat) : Int) ≤ 8) with
      | false => exact iteF rfl
      | true =>
        refine iteT (wpE_one ?_)
        refine wpE_all (k := 0) hr m_all TB hP rfl scIsWord.nd (GX.genOk_by (N := ["value", "signs"]) (sc := defScope sIsWord) (by decide +kernel)) (wpI_str (wpE_var 0 rfl ⟨z, rfl, ?_⟩))
        refine all_items (onSign fun c => decide (c ∈ sg.cps.toList)) (fun d hd z H' code C fp A' hr' => ?_) ?_
        · obtain ⟨c, hc, rfl⟩ := List.mem_map.mp hd
          exact wpE_cmp op_in_sign ok_sign rfl (wpE_var 0 rfl (wpE_var 2 rfl ⟨c, rfl, rfl⟩))
        · rw [all_signs]
          rfl
theorem scIsKind : FnScope ["kinds", "value"] ["kinds", "value"] (defScope sIsKind) := ⟨rfl, rfl, rfl, by decide +kernel, rfl, by decide +kernel, by decide +kernel⟩
theorem ok_isKind {f c : Addr} {fd : FuncData} (F : FunC K "is_line_kind" "is_line_kind" sIsKind f c fd) (m_isi : mg "isinstance" = none) (m_str : mg "str" = none) (ks : Kinds) (d : D) :
    FnOk P w K mg base CX0 1 f fd ["kinds", "value"] (FnV Tb [kindsD ks, d] (.bool (kindOf ks d))) := by
  refine fn_ok F scIsKind (by decide) rfl fun A outer s H E ds hr hl hp => ?_
  subst hp
  have hu : (A.deeper (PyProof.Rows.envOfC "is_line_kind" (defScope sIsKind) s.heap.objs.size f (.ref c))).units + 1 < cLine := by have := hr.un; omega
  refine wpSs_one (wpS_ret (wpE_or (wpE_cmp op_isN ok_is (nomark _) (wpE_var 1 rfl (wpE_none ?_)))))
  cases d with
  | none => exact ⟨true, rfl, iteT rfl⟩
  | bool b => exact ⟨false, rfl, iteF (wpE_one (wpE_and (wpE_isi (T := "str") m_isi m_str (by decide +kernel) (wpE_var 1 rfl ⟨false, (by show kitB "bool" "str" = some false; decide +kernel), false, rfl, iteF rfl⟩))))⟩
  | int b => exact ⟨false, rfl, iteF (wpE_one (wpE_and (wpE_isi (T := "str") m_isi m_str (by decide +kernel) (wpE_var 1 rfl ⟨false, (by show kitB "int" "str" = some false; decide +kernel), false, rfl, iteF rfl⟩))))⟩
  | list b => exact ⟨false, rfl, iteF (wpE_one (wpE_and (wpE_isi (T := "str") m_isi m_str (by decide +kernel) (wpE_var 1 rfl ⟨false, (by show kitB "list" "str" = some false; decide +kernel), false, rfl, iteF rfl⟩))))⟩
  | tuple b => exact ⟨false, rfl, iteF (wpE_one (wpE_and (wpE_isi (T := "str") m_isi m_str (by decide +kernel) (wpE_var 1 rfl ⟨false, (by show kitB "tuple" "str" = some false; decide +kernel), false, rfl, iteF rfl⟩))))⟩
  | dict b => exact ⟨false, rfl, iteF (wpE_one (wpE_and (wpE_isi (T := "str") m_isi m_str (by decide +kernel) (wpE_var 1 rfl ⟨false, (by show kitB "dict" "str" = some false; decide +kernel), false, rfl, iteF rfl⟩))))⟩
  | str z =>
    refine ⟨false, rfl, iteF (wpE_one (wpE_and (wpE_isi (T := "str") m_isi m_str (by decide +kernel) (wpE_var 1 rfl ⟨true, (by show kitB "str" "str" = some true; decide +kernel), true, rfl, iteT (wpE_one ?_)⟩))))⟩
    refine wpE_din hu (wpE_var 1 rfl (wpE_var 0 rfl ⟨⟨.inr z, rfl⟩, ?_⟩))
    show PyData.bool _ = PyData.bool (look ks z).isSome
    rw [dlook_kinds, Option.isSome_map]
theorem scIsLine : FnScope ["kinds", "value"] ["kinds", "value"] (defScope sIsLine) := ⟨rfl, rfl, rfl, by decide +kernel, rfl, by decide +kernel, by decide +kernel⟩
theorem ok_isLine {f c : Addr} {fd : FuncData} (F : FunC K "is_line" "is_line" sIsLine f c fd) {tk tk2 : Tok} {sg : Str} (m_latest : mg "LATEST" = some (.int 1000000000 tk)) (m_signs : mg "PLATE_SIGNS" = some (.str sg tk2))
    {fI : Addr} {fdI : FuncData} (GI : ∀ d lo hi, FnOk P w K mg base CX0 1 fI fdI ["value", "low", "high"] (FnV Tb [d, .int lo, .int hi] (.bool (intIn lo hi d)))) (gI : mg "is_integer" = some (.ref fI)) (kI : PySem.W.keepIn K (.ref fI) = true) (bI : Binds K fdI ["value", "low", "high"] [])
    {fT : Addr} {fdT : FuncData} (GT : ∀ d (n : Nat), FnOk P w K mg base CX0 1 fT fdT ["value", "size"] (FnV Tb [d, .int (n : Nat)] (.bool (tupN n d)))) (gT : mg "is_tuple" = some (.ref fT)) (kT : PySem.W.keepIn K (.ref fT) = true) (bT : Binds K fdT ["value", "size"] [])
    {fW : Addr} {fdW : FuncData} (GW : ∀ d sg, shortS d → FnOk P w K mg base CX0 2 fW fdW ["value", "signs"] (FnV Tb [d, .str sg] (.bool (wordOf sg d)))) (gW : mg "is_word" = some (.ref fW)) (kW : PySem.W.keepIn K (.ref fW) = true) (bW : Binds K fdW ["value", "signs"] [])
    {fN : Addr} {fdN : FuncData} (GN : ∀ ks d, FnOk P w K mg base CX0 1 fN fdN ["kinds", "value"] (FnV Tb [kindsD ks, d] (.bool (kindOf ks d)))) (gN : mg "is_line_kind" = some (.ref fN)) (kN : PySem.W.keepIn K (.ref fN) = true) (bN : Binds K fdN ["kinds", "value"] [])
    (ks : Kinds) (d : D) (hd : shortL d) : FnOk P w K mg base CX0 3 f fd ["kinds", "value"] (FnV Tb [kindsD ks, d] (.bool (isLineM sg ks d))) := by
  refine fn_ok F scIsLine (by decide) rfl fun A outer s H E ds hr hl hp => ?_
  subst hp
  have hr1 : Room 1 (A.deeper (PyProof.Rows.envOfC "is_line" (defScope sIsLine) s.heap.objs.size f (.ref c))) := hr.mono (by decide)
  refine wpSs_one (wpS_ret (wpE_and (wpE_call (GT d 3) hr1 gT kT bT (wpA_cons (wpE_var 1 rfl (wpA_cons (wpE_int (wpA_nil ⟨rfl, rfl, fun y hy => ?_⟩))))))))
  subst hy
  refine ⟨_, rfl, ?_⟩
  cases ht : tupN 3 d with
  | false =>
    refine iteF ?_
    show PyData.bool false = PyData.bool (isLineM sg ks d)
    congr 1
    unfold isLineM
    split
    · cases ht
    · rfl
  | true =>
    obtain ⟨x, y, z, rfl⟩ : ∃ x y z, d = .tuple [x, y, z] := by
      cases d with
      | tuple xs =>
        have h : xs.length = 3 := of_decide_eq_true ht
        match xs, h with
        | [x, y, z], _ => exact ⟨x, y, z, rfl⟩
      | _ => cases ht
    refine iteT (wpE_and (wpE_call (GI x 0 1000000000) hr1 gI kI bI (wpA_cons (wpE_ix (wpE_var 1 rfl (wpE_int ⟨_, rfl, ?_⟩))))))
    refine wpA_cons (wpE_int (wpA_cons (wpE_globI m_latest (wpA_nil ⟨rfl, rfl, fun q hq => ?_⟩))))
    subst hq
    refine ⟨_, rfl, ?_⟩
    have e : isLineM sg ks (.tuple [x, y, z]) = (intIn 0 1000000000 x && (kindOf ks y && plateOf sg z)) := rfl
    rw [e]
    cases intIn 0 1000000000 x with
    | false => exact iteF rfl
    | true =>
      refine iteT (wpE_and (wpE_call (GN ks y) hr1 gN kN bN (wpA_cons (wpE_var 0 rfl (wpA_cons (wpE_ix (wpE_var 1 rfl (wpE_int ⟨_, rfl, wpA_nil ⟨rfl, rfl, fun q hq => ?_⟩⟩))))))))
      subst hq
      refine ⟨_, rfl, ?_⟩
      cases kindOf ks y with
      | false => exact iteF rfl
      | true =>
        refine iteT (wpE_one (wpE_or (wpE_cmp op_isN ok_is (nomark _) (wpE_ix (wpE_var 1 rfl (wpE_int ⟨_, rfl, wpE_none ?_⟩))))))
        have hz : shortS z := hd
        cases z with
        | none => exact ⟨true, rfl, iteT rfl⟩
        | bool b =>
          refine ⟨false, rfl, iteF (wpE_one (wpE_call (GW _ sg hz) hr gW kW bW (wpA_cons (wpE_ix (wpE_var 1 rfl (wpE_int ⟨_, rfl, wpA_cons (wpE_globS m_signs (wpA_nil ⟨rfl, rfl, fun q hq => ?_⟩))⟩))))))⟩
          subst hq
          rfl
        | int b =>
          refine ⟨false, rfl, iteF (wpE_one (wpE_call (GW _ sg hz) hr gW kW bW (wpA_cons (wpE_ix (wpE_var 1 rfl (wpE_int ⟨_, rfl, wpA_cons (wpE_globS m_signs (wpA_nil ⟨rfl, rfl, fun q hq => ?_⟩))⟩))))))⟩
          subst hq
          rfl
        | str b =>
          refine ⟨false, rfl, iteF (wpE_one (wpE_call (GW _ sg hz) hr gW kW bW (wpA_cons (wpE_ix (wpE_var 1 rfl (wpE_int ⟨_, rfl, wpA_cons (wpE_globS m_signs (wpA_nil ⟨rfl, rfl, fun q hq => ?_⟩))⟩))))))⟩
          subst hq
          rfl
        | list b =>
          refine ⟨false, rfl, iteF (wpE_one (wpE_call (GW _ sg hz) hr gW kW bW (wpA_cons (wpE_ix (wpE_var 1 rfl (wpE_int ⟨_, rfl, wpA_cons (wpE_globS m_signs (wpA_nil ⟨rfl, rfl, fun q hq => ?_⟩))⟩))))))⟩
          subst hq
          rfl
        | tuple b =>
          refine ⟨false, rfl, iteF (wpE_one (wpE_call (GW _ sg hz) hr gW kW bW (wpA_cons (wpE_ix (wpE_var 1 rfl (wpE_int ⟨_, rfl, wpA_cons (wpE_globS m_signs (wpA_nil ⟨rfl, rfl, fun q hq => ?_⟩))⟩))))))⟩
          subst hq
          rfl
        | dict b =>
          refine ⟨false, rfl, iteF (wpE_one (wpE_call (GW _ sg hz) hr gW kW bW (wpA_cons (wpE_ix (wpE_var 1 rfl (wpE_int ⟨_, rfl, wpA_cons (wpE_globS m_signs (wpA_nil ⟨rfl, rfl, fun q hq => ?_⟩))⟩))))))⟩
          subst hq
          rfl
end
end K80

set_option Elab.async false
set_option linter.all false
set_option maxRecDepth 100000
set_option maxHeartbeats 1000000
namespace K80
open PySem PySem.Spec L2 DL
def floorM (d : D) : Bool := strIs "closed" d || intIn 0 1000000000 d
theorem good_floor {o : Option Int} (h : FlOk o) : floorM (floorD o) = true := by
  cases o with
  | none =>
    show (decide (("closed" : Str) = "closed") || false) = true
    rw [decide_eq_true rfl]
    rfl
  | some x =>
    have hx := h x rfl
    show (false || (decide (0 ≤ x) && decide (x ≤ 1000000000))) = true
    rw [decide_eq_true hx.1, decide_eq_true hx.2]
    rfl
theorem good_line {ks : Kinds} {l : Line} (h : LnK ks l) : isLineM plSigns ks (lineD l) = true := by
  have e1 : intIn 0 1000000000 (.int l.time) = true := by
    show (decide (0 ≤ l.time) && decide (l.time ≤ 1000000000)) = true
    rw [decide_eq_true h.ok.t0, decide_eq_true h.ok.t1]
    rfl
  have e2 : kindOf ks (oS l.kind) = true := by
    cases hk : l.kind with
    | none => rfl
    | some k => exact look_mem (h.kd k hk)
  have e3 : plateOf plSigns (oS l.plate) = true := by
    cases hp : l.plate with
    | none => rfl
    | some x => exact h.pw x hp
  show (intIn 0 1000000000 (.int l.time) && (kindOf ks (oS l.kind) && plateOf plSigns (oS l.plate))) = true
  rw [e1, e2, e3]
  rfl
theorem emp_app (x : Str) : Str.empty ++ x = x := TL.ext_tl (by rw [TL.tl_append]; rfl)
theorem mapL_step {α : Type} {xs : List α} {f g : α → D} {i : Nat} {d : D} {acc : List D} (hd : (xs.map f)[i]? = some d) (hv : acc = (xs.take i).map g) : ∃ x, x ∈ xs ∧ d = f x ∧ ∀ y, y = g x → acc ++ [y] = (xs.take (i + 1)).map g := by
  subst hv
  rw [List.getElem?_map] at hd
  cases e : xs[i]? with
  | none => rw [e] at hd; cases hd
  | some x =>
    rw [e] at hd
    cases hd
    refine ⟨x, List.mem_of_getElem? e, rfl, fun y hy => ?_⟩
    rw [hy, List.take_add_one, List.map_append, e]
    rfl
theorem mapL_end {α : Type} {xs : List α} {f g : α → D} {acc : List D} (hv : acc = (xs.take (xs.map f).length).map g) : acc = xs.map g := by
  rw [hv, List.length_map, List.take_length]
section
variable {P : Program} {w : World} {K : PySem.W.Frag} {mg : Str → Option Value} {base : Heap} {Tb : List Addr}
theorem scIsFloor : FnScope ["value"] ["value"] (defScope sIsFloor) := ⟨rfl, rfl, rfl, by decide +kernel, rfl, by decide +kernel, by decide +kernel⟩
theorem ok_isFloor {f c : Addr} {fd : FuncData} (F : FunC K "is_floor" "is_floor" sIsFloor f c fd) {tk : Tok} (m_latest : mg "LATEST" = some (.int 1000000000 tk))
    {fI : Addr} {fdI : FuncData} (GI : ∀ d lo hi, FnOk P w K mg base CX0 1 fI fdI ["value", "low", "high"] (FnV Tb [d, .int lo, .int hi] (.bool (intIn lo hi d)))) (gI : mg "is_integer" = some (.ref fI)) (kI : PySem.W.keepIn K (.ref fI) = true) (bI : Binds K fdI ["value", "low", "high"] [])
    (d : D) : FnOk P w K mg base CX0 2 f fd ["value"] (FnV Tb [d] (.bool (floorM d))) := by
  refine fn_ok F scIsFloor (by decide) rfl fun A outer s H E ds hr hl hp => ?_
  subst hp
  refine wpSs_one (wpS_ret (wpE_or (wpE_cmp (op_eqS hr.units) ok_eqS (nomark _) (wpE_var 0 rfl (wpE_str ?_)))))
  have e : floorM d = (strIs "closed" d || intIn 0 1000000000 d) := rfl
  refine ⟨strIs "closed" d, rfl, ?_⟩
  rw [e]
  cases strIs "closed" d with
  | true => exact iteT rfl
  | false =>
    refine iteF (wpE_one (wpE_call (GI d 0 1000000000) hr gI kI bI (wpA_cons (wpE_var 0 rfl (wpA_cons (wpE_int (wpA_cons (wpE_globI m_latest (wpA_nil ⟨rfl, rfl, fun q hq => ?_⟩)))))))))
    subst hq
    rfl
/-! ### written forms -/
theorem scFW : FnScope ["word"] ["word"] (defScope sFmtWord) := ⟨rfl, rfl, rfl, by decide +kernel, rfl, by decide +kernel, by decide +kernel⟩
theorem ok_fmtWord {f c : Addr} {fd : FuncData} (F : FunC K "format_word" "format_word" sFmtWord f c fd) (o : Option Str) : FnOk P w K mg base CX0 1 f fd ["word"] (FnV Tb [oS o] (.str (partS o))) := by
  refine fn_ok F scFW (by decide) rfl fun A outer s H E ds hr hl hp => ?_
  subst hp
  refine wpSs_one (wpS_ret (wpE_ifExp (wpT_cmp op_isN ok_is (nomark _) (wpE_var 0 rfl (wpE_none ?_)))))
  cases o with
  | none => exact ⟨true, rfl, iteT (wpE_str rfl)⟩
  | some x => exact ⟨false, rfl, iteF (wpE_var 0 rfl rfl)⟩
abbrev GFW (P : Program) (w : World) (K : PySem.W.Frag) (mg : Str → Option Value) (base : Heap) (Tb : List Addr) (f : Addr) (fd : FuncData) : Prop := ∀ o : Option Str, FnOk P w K mg base CX0 1 f fd ["word"] (FnV Tb [oS o] (.str (partS o)))
abbrev nFL : List Str := ["line", "time", "kind", "plate"]
theorem scFL : FnScope nFL ["line"] (defScope sFmtLine) := ⟨rfl, rfl, rfl, by decide +kernel, rfl, by decide +kernel, by decide +kernel⟩
theorem log2_small {t : Int} (h0 : 0 ≤ t) (h1 : t ≤ 1000000000) : t.natAbs.log2 < 1920 := by
  have : t.natAbs < 2 ^ 30 := by omega
  by_cases hz : t.natAbs = 0
  · rw [hz]; decide
  · exact Nat.lt_trans ((Nat.log2_lt hz).mpr this) (by decide)
theorem le40 {n : Nat} (h : n ≤ 100000) : n ≤ sizeLine := Nat.le_trans h (by decide)
theorem ok_fmtLine {f c : Addr} {fd : FuncData} (F : FunC K "format_line" "format_line" sFmtLine f c fd)
    {fW : Addr} {fdW : FuncData} (GW : GFW P w K mg base Tb fW fdW) (gW : mg "format_word" = some (.ref fW)) (kW : PySem.W.keepIn K (.ref fW) = true) (bW : Binds K fdW ["word"] [])
    (l : Line) (h : LineOk l) : FnOk P w K mg base CX0 2 f fd ["line"] (FnV Tb [lineD l] (.str (lineT l))) := by
  refine fn_ok F scFL (by decide) rfl fun A outer s H E ds hr hl hp => ?_
  subst hp
  have p1 := (num_part h.t0 h.t1).le
  have p2 := (part_part h.kd).le
  have p3 := (part_part h.pl).le
  have es : (" " : Str).length = 1 := by decide +kernel
  refine wpSs_cons (wpS_unp (wpE_var 0 rfl ?_))
  refine wpG_tup (js := [1, 2, 3]) (pgs_cons (pg_name (i := 1) scFL.nd rfl (.inl rfl)) (pgs_cons (pg_name (i := 2) scFL.nd rfl (.inl rfl)) (pgs_cons (pg_name (i := 3) scFL.nd rfl (.inl rfl)) pgs_nil))) ⟨_, rfl, rfl, ?_⟩ rfl
  show wpSs _ _ _ [some (.d (lineD l)), some (.d (.int l.time)), some (.d (oS l.kind)), some (.d (oS l.plate))] _
  refine wpSs_one (wpS_ret (wpE_joined ?_))
  refine wpE_fmt (wpE_var 1 rfl ⟨log2_small h.t0 h.t1, numS l.time, rfl, ?_, ?_⟩)
  · rw [emp_app]; exact le40 (by omega)
  rw [emp_app]
  refine wpE_str ⟨_, rfl, by rw [strLen_append]; exact le40 (by omega), ?_⟩
  refine wpE_fmt (wpE_call (GW l.kind) hr gW kW bW (wpA_cons (wpE_var 2 rfl (wpA_nil ⟨rfl, rfl, fun d hd => ?_⟩))))
  subst hd
  refine ⟨le40 (by omega), _, rfl, by rw [strLen_append, strLen_append]; exact le40 (by omega), ?_⟩
  refine wpE_str ⟨_, rfl, by rw [strLen_append, strLen_append, strLen_append]; exact le40 (by omega), ?_⟩
  refine wpE_fmt (wpE_call (GW l.plate) hr gW kW bW (wpA_cons (wpE_var 3 rfl (wpA_nil ⟨rfl, rfl, fun d hd => ?_⟩))))
  subst hd
  refine ⟨le40 (by omega), _, rfl, by rw [strLen_append, strLen_append, strLen_append, strLen_append]; exact le40 (by omega), ?_⟩
  rfl
abbrev GFL (P : Program) (w : World) (K : PySem.W.Frag) (mg : Str → Option Value) (base : Heap) (Tb : List Addr) (f : Addr) (fd : FuncData) : Prop := ∀ l : Line, LineOk l → FnOk P w K mg base CX0 2 f fd ["line"] (FnV Tb [lineD l] (.str (lineT l)))
end
end K80

set_option Elab.async false
set_option linter.all false
set_option maxRecDepth 100000
set_option maxHeartbeats 1000000
namespace K80
open PySem PySem.Spec L2 DL
section
variable {P : Program} {w : World} {K : PySem.W.Frag} {mg : Str → Option Value} {base : Heap} {Tb : List Addr}
abbrev nFG : List Str := ["log", "entries", "exits", "entry_floor", "exit_floor", "rows", "line"]
theorem scFG : FnScope nFG ["log"] (defScope sFmtLog) := ⟨rfl, rfl, rfl, by decide +kernel, rfl, by decide +kernel, by decide +kernel⟩
theorem fmt_floor {Pf : Str → Prop} {o : Option Int} (h : FlOk o) (q : Pf (floorT o)) : fmtR (floorD o) Pf := by
  cases o with
  | none => exact ⟨(by decide +kernel), q⟩
  | some x => exact ⟨log2_small (h x rfl).1 (h x rfl).2, q⟩
theorem wpJ_nil {X : Cx} {Tb : List Addr} {acc : Str} {δ : Dl} {P : D → Prop} (h : P (.str acc)) : wpJ X Tb [] acc δ P := h
theorem ok_fmtLog {f c : Addr} {fd : FuncData} (F : FunC K "format_log" "format_log" sFmtLog f c fd)
    {fL : Addr} {fdL : FuncData} (GL : GFL P w K mg base Tb fL fdL) (gL : mg "format_line" = some (.ref fL)) (kL : PySem.W.keepIn K (.ref fL) = true) (bL : Binds K fdL ["line"] [])
    (lg : Log) (h : LogOk lg) : FnOk P w K mg base CX0 3 f fd ["log"] (FnV Tb [logD lg] (.str (logT lg))) := by
  refine fn_ok F scFG (by decide) rfl fun A outer s H E ds hr hl hp => ?_
  subst hp
  have p1 := (floor_part h.ef).le
  have p2 := (floor_part h.xf).le
  have hl1 := h.ln
  have hl2 := h.lx
  have es : (" " : Str).length = 1 := by decide +kernel
  have ef : ("floors " : Str).length = 7 := by decide +kernel
  refine wpSs_cons (wpS_unp (wpE_var 0 rfl ?_))
  refine wpG_tup (js := [1, 2, 3, 4]) (pgs_cons (pg_name (i := 1) scFG.nd rfl (.inl rfl)) (pgs_cons (pg_name (i := 2) scFG.nd rfl (.inl rfl)) (pgs_cons (pg_name (i := 3) scFG.nd rfl (.inl rfl)) (pgs_cons (pg_name (i := 4) scFG.nd rfl (.inl rfl)) pgs_nil)))) ⟨_, rfl, rfl, ?_⟩ rfl
  show wpSs _ _ _ [some (.d (logD lg)), some (.d (.list (lg.entries.map lineD))), some (.d (.list (lg.exits.map lineD))), some (.d (floorD lg.ef)), some (.d (floorD lg.xf)), none, none] _
  refine wpSs_cons (wpS_own 5 (wpF_lst (wpA_cons (wpE_joined ?_))) scFG.nd)
  refine wpE_str ⟨_, rfl, by rw [emp_app]; exact le40 (by omega), ?_⟩
  rw [emp_app]
  refine wpE_fmt (wpE_var 3 rfl ?_)
  show fmtR (floorD lg.ef) _
  refine fmt_floor h.ef ?_
  refine ⟨_, rfl, by rw [strLen_append]; exact le40 (by omega), ?_⟩
  refine wpE_str ⟨_, rfl, by rw [strLen_append, strLen_append]; exact le40 (by omega), ?_⟩
  refine wpE_fmt (wpE_var 4 rfl ?_)
  show fmtR (floorD lg.xf) _
  refine fmt_floor h.xf ?_
  refine ⟨_, rfl, by rw [strLen_append, strLen_append, strLen_append]; exact le40 (by omega), ?_⟩
  have e0 : ("floors " : Str) ++ floorT lg.ef ++ " " ++ floorT lg.xf = row0 lg := by
    unfold row0
    have : ("floors " : Str) = "floors" ++ " " := by decide +kernel
    rw [this]
  rw [e0]
  refine wpJ_nil ?_
  refine wpA_nil ?_
  refine ⟨by show 1 ≤ sizeLine; decide, ?_⟩
  show wpSs _ _ _ [some (.d (logD lg)), some (.d (.list (lg.entries.map lineD))), some (.d (.list (lg.exits.map lineD))), some (.d (floorD lg.ef)), some (.d (floorD lg.xf)), some (.own (.lst [.str (row0 lg)])), none] _
  refine wpSs_cons (wpS_extend 5 rfl (wpE_lc (c := none) 6 rfl (wpI_list (wpE_var 1 rfl ⟨_, rfl, ?_⟩)) rfl scFG.nd (blkOk_by (N := nFG) (sc := defScope sFmtLog) (by decide +kernel)) rfl) (hpe := fun a b => pe_bm PySem.F.plainAttrs_list PySem.F.slot_list_extend PySem.F.type_list_extend mt_extend a b))
  refine ⟨by rw [List.length_map]; exact Nat.lt_of_le_of_lt hl1 (by decide), fun i acc => acc = (lg.entries.take i).map (fun l => .str (rowIn l)), rfl, fun i d acc hd hv z H' C cl fp => ?_, fun acc hv => ?_⟩
  · obtain ⟨l, hl, rfl, st⟩ := mapL_step hd hv
    refine wpE_mono (P := fun y => y = .str (rowIn l)) ?_ st
    refine wpE_joined (wpE_str ⟨_, rfl, by rw [emp_app]; decide +kernel, ?_⟩)
    rw [emp_app]
    refine wpE_fmt (wpE_call (GL l (h.en l hl)) hr gL kL bL (wpA_cons (wpE_var 6 rfl (wpA_nil ⟨rfl, rfl, fun d hd => ?_⟩))))
    subst hd
    have := lineT_len (h.en l hl)
    refine ⟨le40 (by omega), _, rfl, ?_, ?_⟩
    · rw [strLen_append]
      have : ("in " : Str).length = 3 := by decide +kernel
      exact le40 (by omega)
    · have : ("in " : Str) = "in" ++ " " := by decide +kernel
      show PyData.str (("in " : Str) ++ lineT l) = PyData.str (rowIn l)
      rw [this]
      rfl
  have hv := mapL_end hv
  subst hv
  refine ⟨_, rfl, ?_, ?_⟩
  · rw [List.length_map]
    exact le40 (by show 1 + _ ≤ _; omega)
  show wpSs _ _ _ [some (.d (logD lg)), some (.d (.list (lg.entries.map lineD))), some (.d (.list (lg.exits.map lineD))), some (.d (floorD lg.ef)), some (.d (floorD lg.xf)), some (.own (.lst ([.str (row0 lg)] ++ lg.entries.map (fun l => .str (rowIn l))))), none] _
  refine wpSs_cons (wpS_extend 5 rfl (wpE_lc (c := none) 6 rfl (wpI_list (wpE_var 2 rfl ⟨_, rfl, ?_⟩)) rfl scFG.nd (blkOk_by (N := nFG) (sc := defScope sFmtLog) (by decide +kernel)) rfl) (hpe := fun a b => pe_bm PySem.F.plainAttrs_list PySem.F.slot_list_extend PySem.F.type_list_extend mt_extend a b))
  refine ⟨by rw [List.length_map]; exact Nat.lt_of_le_of_lt hl2 (by decide), fun i acc => acc = (lg.exits.take i).map (fun l => .str (rowOut l)), rfl, fun i d acc hd hv z H' C cl fp => ?_, fun acc hv => ?_⟩
  · obtain ⟨l, hl, rfl, st⟩ := mapL_step hd hv
    refine wpE_mono (P := fun y => y = .str (rowOut l)) ?_ st
    refine wpE_joined (wpE_str ⟨_, rfl, by rw [emp_app]; decide +kernel, ?_⟩)
    rw [emp_app]
    refine wpE_fmt (wpE_call (GL l (h.ex l hl)) hr gL kL bL (wpA_cons (wpE_var 6 rfl (wpA_nil ⟨rfl, rfl, fun d hd => ?_⟩))))
    subst hd
    have := lineT_len (h.ex l hl)
    refine ⟨le40 (by omega), _, rfl, ?_, ?_⟩
    · rw [strLen_append]
      have : ("out " : Str).length = 4 := by decide +kernel
      exact le40 (by omega)
    · have : ("out " : Str) = "out" ++ " " := by decide +kernel
      show PyData.str (("out " : Str) ++ lineT l) = PyData.str (rowOut l)
      rw [this]
      rfl
  have hv := mapL_end hv
  subst hv
  refine ⟨_, rfl, ?_, ?_⟩
  · rw [List.length_append, List.length_map, List.length_map]
    exact le40 (by show 1 + _ + _ ≤ _; omega)
  have er : ([.str (row0 lg)] ++ lg.entries.map (fun l => PyData.str (rowIn l))) ++ lg.exits.map (fun l => PyData.str (rowOut l)) = (rowsT lg).map .str := by
    unfold rowsT
    rw [List.map_cons, List.map_append, List.map_map, List.map_map]
    rfl
  rw [er]
  show wpSs _ _ _ [some (.d (logD lg)), some (.d (.list (lg.entries.map lineD))), some (.d (.list (lg.exits.map lineD))), some (.d (floorD lg.ef)), some (.d (floorD lg.xf)), some (.own (.lst ((rowsT lg).map .str))), none] _
  refine wpSs_thaw 5 rfl (wpSs_one (wpS_ret (wpE_join (wpE_str ⟨_, rfl, wpE_var 5 rfl ⟨rowsT lg, rfl, Nat.le_trans (rows_sum h) (by decide), rfl⟩⟩))))
/-! ### texts read -/
theorem scWO : FnScope ["word"] ["word"] (defScope sWordOf) := ⟨rfl, rfl, rfl, by decide +kernel, rfl, by decide +kernel, by decide +kernel⟩
theorem ok_wordOf {f c : Addr} {fd : FuncData} (F : FunC K "word_of" "word_of" sWordOf f c fd) (o : Option Str) (h : ∀ x, o = some x → Wd x) : FnOk P w K mg base CX0 1 f fd ["word"] (FnV Tb [.str (partS o)] (oS o)) := by
  refine fn_ok F scWO (by decide) rfl fun A outer s H E ds hr hl hp => ?_
  subst hp
  refine wpSs_one (wpS_ret (wpE_ifExp (wpT_cmp (op_eqDD hr.units) ok_eq (nomark _) (wpE_var 0 rfl (wpE_str (r_eqS ⟨_, rfl, ?_⟩))))))
  cases o with
  | none => rw [decide_eq_true (show partS none = ("-" : Str) from rfl)]; exact iteT (wpE_none rfl)
  | some x =>
    have hx := h x rfl
    have ne : ¬ partS (some x) = ("-" : Str) := fun z => by
      have z : x = ("-" : Str) := z
      have e : tl x = [45] := by rw [z]; decide +kernel
      have := hx.sg 45 (by rw [e]; exact List.mem_cons_self)
      omega
    rw [decide_eq_false ne]
    exact iteF (wpE_var 0 rfl rfl)
abbrev GWO (P : Program) (w : World) (K : PySem.W.Frag) (mg : Str → Option Value) (base : Heap) (Tb : List Addr) (f : Addr) (fd : FuncData) : Prop := ∀ o : Option Str, (∀ x, o = some x → Wd x) → FnOk P w K mg base CX0 1 f fd ["word"] (FnV Tb [.str (partS o)] (oS o))
def digS : Str := "0123456789"
theorem dig_mem {c : Nat} (h : 48 ≤ c ∧ c ≤ 57) : c ∈ digS.cps.toList := by
  have e : digS.cps.toList = [48, 49, 50, 51, 52, 53, 54, 55, 56, 57] := by decide +kernel
  rw [e]
  simp only [List.mem_cons, List.not_mem_nil, or_false]
  omega
theorem scNO : FnScope ["word", "number"] ["word"] (defScope sNumOf) := ⟨rfl, rfl, rfl, by decide +kernel, rfl, by decide +kernel, by decide +kernel⟩
theorem ok_numOf {f c Pt : Addr} {fd : FuncData} (F : FunC K "number_of" "number_of" sNumOf f c fd) (TB : GxR.TabB base mg c Pt) (hP : Pt ∈ Tb) {tk1 tk2 tk3 : Tok} (m_latest : mg "LATEST" = some (.int 1000000000 tk1)) (m_digits : mg "DIGITS" = some (.str digS tk2)) (m_most : mg "MOST_DIGITS" = some (.int 10 tk3))
    (m_len : mg "len" = none) (m_all : mg "all" = none) (m_int : mg "int" = none) (t : Int) (h0 : 0 ≤ t) (h1 : t ≤ 1000000000) : FnOk P w K mg base CX0 2 f fd ["word"] (FnV Tb [.str (numS t)] (.int t)) := by
  refine fn_ok F scNO (by decide) rfl fun A outer s H E ds hr hl hp => ?_
  subst hp
  have hp := num_part h0 h1
  have hpl := hp.le
  have hne := num_ne_nil h0
  have hlen : (numS t).length = (tl (numS t)).length := TL.len_tl _
  have hpos : 1 ≤ (numS t).length := by
    rw [hlen]
    exact List.length_pos_iff.mpr hne
  refine wpSs_cons (wpS_if (wpT_W (wpW_or (wpT_not (wpT_chain op_le op_le ok_lt ok_lt (wpE_int (wpE_callB call_lenX ok_len m_len boot_len' (wpA_cons (wpE_var 0 rfl (wpA_nil ⟨(fun _ z => nomatch z), r_lenS (le40 (by omega)) ?_⟩))))))))))
  refine r_lt ⟨_, rfl, ?_⟩
  rw [decide_eq_true (show (1 : Int) ≤ ((numS t).length : Nat) by omega)]
  refine iteT (wpE_globI m_most (r_lt ⟨_, rfl, ?_⟩))
  rw [decide_eq_true (show (((numS t).length : Nat) : Int) ≤ 10 by omega)]
  refine iteF (wpW_or1 (wpT_not (wpT_val ?_)))
  refine wpE_all (k := 0) hr m_all TB hP rfl scNO.nd (GX.genOk_by (N := ["word", "number"]) (sc := defScope sNumOf) (by decide +kernel)) (wpI_str (wpE_var 0 rfl ⟨_, rfl, ?_⟩))
  refine all_items (onSign fun c => decide (c ∈ digS.cps.toList)) (fun d hd z H' code C fp A' hr' => ?_) ?_
  · obtain ⟨c, hc, rfl⟩ := List.mem_map.mp hd
    exact wpE_cmp op_in_sign ok_sign rfl (wpE_var 0 rfl (wpE_globS m_digits ⟨c, rfl, rfl⟩))
  rw [all_signs]
  have eall : ((numS t).cps.toList.all fun c => decide (c ∈ digS.cps.toList)) = true := List.all_eq_true.mpr fun c hc => decide_eq_true (dig_mem (by
    have hc : c ∈ tl (numS t) := hc
    rw [num_nat h0] at hc
    exact TL.numL_digits _ c hc))
  rw [eall]
  refine ⟨true, rfl, iteF (wpSs_nil ?_)⟩
  -- a leading nought
  obtain ⟨c0, r0, etl⟩ : ∃ c0 r0, tl (numS t) = c0 :: r0 := by
    cases e : tl (numS t) with
    | nil => exact absurd e hne
    | cons a b => exact ⟨a, b, rfl⟩
  have hat : atI (numS t).cps.toList 0 = some c0 := at_nat (n := 0) (xs := (numS t).cps.toList) (by show (tl (numS t))[0]? = some c0; rw [etl]; rfl)
  refine wpSs_cons (wpS_if (wpT_W (wpW_and (wpT_cmp (op_eqDD hr.units) ok_eq (nomark _) (wpE_ix (wpE_var 0 rfl (wpE_int ⟨c0, le40 (by omega), hat, wpE_str (r_eqS ⟨_, rfl, ?_⟩)⟩)))))))
  have rest : wpSs (cxOf CX0 P w K mg base ["word", "number"] "number_of" (defScope sNumOf) f (.ref c) A outer s H E).nox Tb ((defBody sNumOf).drop 2) [some (.d (.str (numS t))), none] { nx := fun _ => PyData.none = PyData.int t, rt := fun d => d = .int t } := by
    refine wpSs_cons (wpS_set 1 (wpE_callTy call_int_str ok_intT m_int boot_int (wpA_cons (wpE_var 0 rfl (wpA_nil ⟨t, num_read h0 h1, Nat.le_trans hpl (by decide), ?_⟩)))) scNO.nd)
    show wpSs _ _ _ [some (.d (.str (numS t))), some (.d (.int t))] _
    refine wpSs_one (wpS_ret (wpE_ifExp (wpT_cmp op_le ok_lt (nomark _) (wpE_var 1 rfl (wpE_globI m_latest (r_lt ⟨_, rfl, ?_⟩))))))
    rw [decide_eq_true h1]
    exact iteT (wpE_var 1 rfl rfl)
  by_cases hz : (⟨#[c0]⟩ : Str) = ("0" : Str)
  · have ec : c0 = 48 := by
      have e : tl (⟨#[c0]⟩ : Str) = tl ("0" : Str) := by rw [hz]
      have e2 : tl ("0" : Str) = [48] := by decide +kernel
      rw [e2] at e
      exact (List.cons.inj e).1
    have e1 : numS t = ("0" : Str) := num_zero h0 (by rw [etl, ec]; rfl)
    rw [decide_eq_true hz]
    refine iteT (wpW_and1 (wpT_cmp (op_neDD hr.units) ok_ne (nomark _) (wpE_var 0 rfl (wpE_str (r_eqS ⟨_, rfl, ?_⟩)))))
    rw [decide_eq_true e1]
    exact iteF (wpSs_nil rest)
  · rw [decide_eq_false hz]
    exact iteF (iteF (wpSs_nil rest))
abbrev GNO (P : Program) (w : World) (K : PySem.W.Frag) (mg : Str → Option Value) (base : Heap) (Tb : List Addr) (f : Addr) (fd : FuncData) : Prop := ∀ t : Int, 0 ≤ t → t ≤ 1000000000 → FnOk P w K mg base CX0 2 f fd ["word"] (FnV Tb [.str (numS t)] (.int t))
end
end K80

set_option Elab.async false
set_option linter.all false
set_option maxRecDepth 100000
set_option maxHeartbeats 1000000
namespace K80
open PySem PySem.Spec L2 DL
section
variable {P : Program} {w : World} {K : PySem.W.Frag} {mg : Str → Option Value} {base : Heap} {Tb : List Addr}
abbrev GIsLine (P : Program) (w : World) (K : PySem.W.Frag) (mg : Str → Option Value) (base : Heap) (Tb : List Addr) (f : Addr) (fd : FuncData) : Prop := ∀ (ks : Kinds) (d : D), shortL d → FnOk P w K mg base CX0 3 f fd ["kinds", "value"] (FnV Tb [kindsD ks, d] (.bool (isLineM plSigns ks d)))
abbrev nLO : List Str := ["kinds", "text", "words", "line"]
theorem scLO : FnScope nLO ["kinds", "text"] (defScope sLineOf) := ⟨rfl, rfl, rfl, by decide +kernel, rfl, by decide +kernel, by decide +kernel⟩
theorem line_short {l : Line} (h : LineOk l) : shortL (lineD l) := by
  show shortS (oS l.plate)
  cases e : l.plate with
  | none => exact trivial
  | some x => exact Nat.le_trans (h.pl x e).le (by decide)
theorem ok_lineOf {f c : Addr} {fd : FuncData} (F : FunC K "line_of" "line_of" sLineOf f c fd) (m_len : mg "len" = none)
    {fN : Addr} {fdN : FuncData} (GN : GNO P w K mg base Tb fN fdN) (gN : mg "number_of" = some (.ref fN)) (kN : PySem.W.keepIn K (.ref fN) = true) (bN : Binds K fdN ["word"] [])
    {fW : Addr} {fdW : FuncData} (GW : GWO P w K mg base Tb fW fdW) (gW : mg "word_of" = some (.ref fW)) (kW : PySem.W.keepIn K (.ref fW) = true) (bW : Binds K fdW ["word"] [])
    {fI : Addr} {fdI : FuncData} (GI : GIsLine P w K mg base Tb fI fdI) (gI : mg "is_line" = some (.ref fI)) (kI : PySem.W.keepIn K (.ref fI) = true) (bI : Binds K fdI ["kinds", "value"] [])
    (ks : Kinds) (l : Line) (h : LnK ks l) : FnOk P w K mg base CX0 4 f fd ["kinds", "text"] (FnV Tb [kindsD ks, .str (lineT l)] (lineD l)) := by
  refine fn_ok F scLO (by decide) rfl fun A outer s H E ds hr hl hp => ?_
  subst hp
  have hr2 : Room 2 (A.deeper (PyProof.Rows.envOfC "line_of" (defScope sLineOf) s.heap.objs.size f (.ref c))) := hr.mono (by decide)
  have hr1 : Room 1 (A.deeper (PyProof.Rows.envOfC "line_of" (defScope sLineOf) s.heap.objs.size f (.ref c))) := hr.mono (by decide)
  have hlen := lineT_len h.ok
  refine wpSs_cons (wpS_set 2 (wpE_split (wpE_var 1 rfl ⟨_, rfl, wpE_str ⟨_, rfl, rfl, le40 (by omega), ?_⟩⟩)) scLO.nd)
  have e0 : Txt.split (lineT l) (" " : Str) = [numS l.time, partS l.kind, partS l.plate] := line_split h.ok
  rw [e0]
  show wpSs _ _ _ [some (.d (kindsD ks)), some (.d (.str (lineT l))), some (.d (.list [.str (numS l.time), .str (partS l.kind), .str (partS l.plate)])), none] _
  refine wpSs_cons (wpS_if (wpT_cmp (op_neDD hr.units) ok_ne (nomark _) (wpE_callB call_lenX ok_len m_len boot_len' (wpA_cons (wpE_var 2 rfl (wpA_nil ⟨(fun _ z => nomatch z), r_lenL ?_⟩))))))
  refine wpE_int (r_eqI ⟨_, rfl, ?_⟩)
  refine iteF (wpSs_nil ?_)
  refine wpSs_cons (wpS_set 3 ?_ scLO.nd)
  refine wpE_tup (wpA_cons (wpE_call (GN l.time h.ok.t0 h.ok.t1) hr2 gN kN bN (wpA_cons (wpE_ix (wpE_var 2 rfl (wpE_int ⟨_, rfl, wpA_nil ⟨rfl, rfl, fun d hd => ?_⟩⟩))))))
  subst hd
  refine wpA_cons (wpE_call (GW l.kind h.ok.kd) hr1 gW kW bW (wpA_cons (wpE_ix (wpE_var 2 rfl (wpE_int ⟨_, rfl, wpA_nil ⟨rfl, rfl, fun d hd => ?_⟩⟩)))))
  subst hd
  refine wpA_cons (wpE_call (GW l.plate h.ok.pl) hr1 gW kW bW (wpA_cons (wpE_ix (wpE_var 2 rfl (wpE_int ⟨_, rfl, wpA_nil ⟨rfl, rfl, fun d hd => ?_⟩⟩)))))
  subst hd
  refine wpA_nil ⟨by show 3 ≤ sizeLine; decide, ?_⟩
  show wpSs _ _ _ [some (.d (kindsD ks)), some (.d (.str (lineT l))), some (.d (.list [.str (numS l.time), .str (partS l.kind), .str (partS l.plate)])), some (.d (lineD l))] _
  refine wpSs_one (wpS_ret (wpE_ifExp (wpT_val (wpE_call (GI ks (lineD l) (line_short h.ok)) hr gI kI bI (wpA_cons (wpE_var 0 rfl (wpA_cons (wpE_var 3 rfl (wpA_nil ⟨rfl, rfl, fun d hd => ?_⟩)))))))))
  subst hd
  rw [good_line h]
  exact ⟨true, rfl, iteT (wpE_var 3 rfl rfl)⟩
abbrev GLO (P : Program) (w : World) (K : PySem.W.Frag) (mg : Str → Option Value) (base : Heap) (Tb : List Addr) (f : Addr) (fd : FuncData) : Prop := ∀ (ks : Kinds) (l : Line), LnK ks l → FnOk P w K mg base CX0 4 f fd ["kinds", "text"] (FnV Tb [kindsD ks, .str (lineT l)] (lineD l))
abbrev nPL : List Str := ["kinds", "text", "line"]
theorem scPL : FnScope nPL ["kinds", "text"] (defScope sParseLine) := ⟨rfl, rfl, rfl, by decide +kernel, rfl, by decide +kernel, by decide +kernel⟩
theorem ok_parseLine {f c : Addr} {fd : FuncData} (F : FunC K "parse_line" "parse_line" sParseLine f c fd)
    {fL : Addr} {fdL : FuncData} (GL : GLO P w K mg base Tb fL fdL) (gL : mg "line_of" = some (.ref fL)) (kL : PySem.W.keepIn K (.ref fL) = true) (bL : Binds K fdL ["kinds", "text"] [])
    (ks : Kinds) (l : Line) (h : LnK ks l) : FnOk P w K mg base CX0 5 f fd ["kinds", "text"] (FnV Tb [kindsD ks, .str (lineT l)] (lineD l)) := by
  refine fn_ok F scPL (by decide) rfl fun A outer s H E ds hr hl hp => ?_
  subst hp
  refine wpSs_cons (wpS_set 2 (wpE_call (GL ks l h) hr gL kL bL (wpA_cons (wpE_var 0 rfl (wpA_cons (wpE_var 1 rfl (wpA_nil ⟨rfl, rfl, fun d hd => ?_⟩)))))) scPL.nd)
  subst hd
  show wpSs _ _ _ [some (.d (kindsD ks)), some (.d (.str (lineT l))), some (.d (lineD l))] _
  refine wpSs_cons (wpS_if (wpT_cmp op_isN ok_is (nomark _) (wpE_var 2 rfl (wpE_none ⟨false, rfl, iteF (wpSs_nil ?_)⟩))))
  exact wpSs_one (wpS_ret (wpE_var 2 rfl rfl))
abbrev GPL (P : Program) (w : World) (K : PySem.W.Frag) (mg : Str → Option Value) (base : Heap) (Tb : List Addr) (f : Addr) (fd : FuncData) : Prop := ∀ (ks : Kinds) (l : Line), LnK ks l → FnOk P w K mg base CX0 5 f fd ["kinds", "text"] (FnV Tb [kindsD ks, .str (lineT l)] (lineD l))
abbrev GIsFloor (P : Program) (w : World) (K : PySem.W.Frag) (mg : Str → Option Value) (base : Heap) (Tb : List Addr) (f : Addr) (fd : FuncData) : Prop := ∀ d : D, FnOk P w K mg base CX0 2 f fd ["value"] (FnV Tb [d] (.bool (floorM d)))
abbrev nFO : List Str := ["row", "words", "floors", "word"]
theorem scFO : FnScope nFO ["row"] (defScope sFloorsOf) := ⟨rfl, rfl, rfl, by decide +kernel, rfl, by decide +kernel, by decide +kernel⟩
theorem num_closed {t : Int} (h0 : 0 ≤ t) : numS t ≠ ("closed" : Str) := fun z => by
  have e : tl ("closed" : Str) = [99, 108, 111, 115, 101, 100] := by decide +kernel
  have h := num_nat h0
  rw [z, e] at h
  have := TL.numL_digits t.toNat 99 (by rw [← h]; exact List.mem_cons_self)
  omega
theorem ok_floorsOf {f c Pt : Addr} {fd : FuncData} (F : FunC K "floors_of" "floors_of" sFloorsOf f c fd) (TB : GxR.TabB base mg c Pt) (hP : Pt ∈ Tb) (m_len : mg "len" = none) (m_all : mg "all" = none)
    {fN : Addr} {fdN : FuncData} (GN : GNO P w K mg base Tb fN fdN) (gN : mg "number_of" = some (.ref fN)) (kN : PySem.W.keepIn K (.ref fN) = true) (bN : Binds K fdN ["word"] [])
    {fI : Addr} {fdI : FuncData} (GI : GIsFloor P w K mg base Tb fI fdI) (gI : mg "is_floor" = some (.ref fI)) (kI : PySem.W.keepIn K (.ref fI) = true) (bI : Binds K fdI ["value"] [])
    (lg : Log) (he : FlOk lg.ef) (hx : FlOk lg.xf) : FnOk P w K mg base CX0 4 f fd ["row"] (FnV Tb [.str (row0 lg)] (.list [floorD lg.ef, floorD lg.xf])) := by
  refine fn_ok F scFO (by decide) rfl fun A outer s H E ds hr hl hp => ?_
  subst hp
  have hr2 : Room 2 (A.deeper (PyProof.Rows.envOfC "floors_of" (defScope sFloorsOf) s.heap.objs.size f (.ref c))) := hr.mono (by decide)
  have hlen := row0_len he hx
  refine wpSs_cons (wpS_set 1 (wpE_split (wpE_var 0 rfl ⟨_, rfl, wpE_str ⟨_, rfl, rfl, le40 (by omega), ?_⟩⟩)) scFO.nd)
  have e0 : Txt.split (row0 lg) (" " : Str) = [("floors" : Str), floorT lg.ef, floorT lg.xf] := row0_split he hx
  rw [e0]
  show wpSs _ _ _ [some (.d (.str (row0 lg))), some (.d (.list [.str "floors", .str (floorT lg.ef), .str (floorT lg.xf)])), none, none] _
  refine wpSs_cons (wpS_if (wpT_W (wpW_or (wpT_cmp (op_neDD hr.units) ok_ne (nomark _) (wpE_callB call_lenX ok_len m_len boot_len' (wpA_cons (wpE_var 1 rfl (wpA_nil ⟨(fun _ z => nomatch z), r_lenL ?_⟩))))))))
  refine wpE_int (r_eqI ⟨_, rfl, ?_⟩)
  refine iteF (wpW_or1 (wpT_cmp (op_neDD hr.units) ok_ne (nomark _) (wpE_ix (wpE_var 1 rfl (wpE_int ⟨_, rfl, wpE_str (r_eqS ⟨_, rfl, ?_⟩)⟩)))))
  rw [decide_eq_true rfl]
  refine iteF (wpSs_nil ?_)
  refine wpSs_cons (wpS_setLc (c := none) 2 3 rfl (wpI_list (wpE_dropL (wpE_var 1 rfl ⟨_, rfl, wpE_int ⟨1, rfl, _, rfl, ?_⟩⟩))) rfl scFO.nd (blkOk_by (N := nFO) (sc := defScope sFloorsOf) (by decide +kernel)) rfl)
  show LcG _ _ _ _ _ _ _ _ ([lg.ef, lg.xf].map fun o => .str (floorT o))
  have hfl : ∀ o ∈ [lg.ef, lg.xf], FlOk o := fun o ho => by
    simp only [List.mem_cons, List.not_mem_nil, or_false] at ho
    rcases ho with rfl | rfl
    · exact he
    · exact hx
  refine ⟨by show 2 < sizeLine; decide, fun i acc => acc = ([lg.ef, lg.xf].take i).map floorD, rfl, fun i d acc hd hv z H' C cl fp => ?_, fun acc hv => ?_⟩
  · obtain ⟨o, ho, rfl, st⟩ := mapL_step hd hv
    refine wpE_mono (P := fun y => y = floorD o) ?_ st
    refine wpE_ifExp (wpT_cmp (op_eqDD hr.units) ok_eq (nomark _) (wpE_var 3 rfl (wpE_str (r_eqS ⟨_, rfl, ?_⟩))))
    have hfo := hfl o ho
    cases o with
    | none => rw [decide_eq_true (show floorT none = ("closed" : Str) from rfl)]; exact iteT (wpE_var 3 rfl rfl)
    | some t =>
      have ht := hfo t rfl
      rw [decide_eq_false (show ¬ floorT (some t) = ("closed" : Str) from num_closed ht.1)]
      exact iteF (wpE_call (GN t ht.1 ht.2) hr2 gN kN bN (wpA_cons (wpE_var 3 rfl (wpA_nil ⟨rfl, rfl, fun d hd => hd⟩))))
  have hv := mapL_end hv
  subst hv
  show wpSs _ _ _ [some (.d (.str (row0 lg))), some (.d (.list [.str "floors", .str (floorT lg.ef), .str (floorT lg.xf)])), some (.d (.list [floorD lg.ef, floorD lg.xf])), none] _
  refine wpSs_one (wpS_ret (wpE_ifExp (wpT_val ?_)))
  refine wpE_all (k := 2) hr m_all TB hP rfl scFO.nd (GX.genOk_by (N := nFO) (sc := defScope sFloorsOf) (by decide +kernel)) (wpI_list (wpE_var 2 rfl ⟨_, rfl, ?_⟩))
  refine all_items floorM (fun d hx z H' code C fp A' hr' => ?_) ?_
  · exact wpE_call (GI d) hr' gI kI bI (wpA_cons (wpE_var 0 rfl (wpA_nil ⟨rfl, rfl, fun q hq => hq⟩)))
  have ea : [floorD lg.ef, floorD lg.xf].all floorM = true := by
    show (floorM _ && (floorM _ && true)) = true
    rw [good_floor he, good_floor hx]
    rfl
  rw [ea]
  exact ⟨true, rfl, iteT (wpE_var 2 rfl rfl)⟩
abbrev GFO (P : Program) (w : World) (K : PySem.W.Frag) (mg : Str → Option Value) (base : Heap) (Tb : List Addr) (f : Addr) (fd : FuncData) : Prop := ∀ lg : Log, FlOk lg.ef → FlOk lg.xf → FnOk P w K mg base CX0 4 f fd ["row"] (FnV Tb [.str (row0 lg)] (.list [floorD lg.ef, floorD lg.xf]))
end
end K80

set_option Elab.async false
set_option linter.all false
set_option maxRecDepth 100000
set_option maxHeartbeats 1000000
namespace K80
open PySem PySem.Spec L2 DL
section
variable {P : Program} {w : World} {K : PySem.W.Frag} {mg : Str → Option Value} {base : Heap} {Tb : List Addr}
abbrev nPG : List Str := ["kinds", "text", "rows", "floors", "entries", "exits", "number", "word", "_", "rest", "line"]
theorem scPG : FnScope nPG ["kinds", "text"] (defScope sParseLog) := ⟨rfl, rfl, rfl, by decide +kernel, rfl, by decide +kernel, by decide +kernel⟩
theorem row_cases {lg : Log} {i : Nat} (hi : i < lg.entries.length + lg.exits.length) :
    (∃ l, i < lg.entries.length ∧ lg.entries[i]? = some l ∧ (rowsT lg)[i + 1]? = some (rowIn l)) ∨ (∃ l, lg.entries.length ≤ i ∧ lg.exits[i - lg.entries.length]? = some l ∧ (rowsT lg)[i + 1]? = some (rowOut l)) := by
  by_cases h : i < lg.entries.length
  · refine .inl ⟨lg.entries[i], h, List.getElem?_eq_getElem h, ?_⟩
    show (lg.entries.map rowIn ++ lg.exits.map rowOut)[i]? = _
    rw [List.getElem?_append_left (by rw [List.length_map]; exact h), List.getElem?_map, List.getElem?_eq_getElem h]
    rfl
  · have h2 : i - lg.entries.length < lg.exits.length := by omega
    refine .inr ⟨lg.exits[i - lg.entries.length], by omega, List.getElem?_eq_getElem h2, ?_⟩
    show (lg.entries.map rowIn ++ lg.exits.map rowOut)[i]? = _
    rw [List.getElem?_append_right (by rw [List.length_map]; omega), List.length_map, List.getElem?_map, List.getElem?_eq_getElem h2]
    rfl
abbrev postPG (ks : Kinds) (lg : Log) : List D → List D → List D → D → D → Prop := fun _ rs1 rs2 d3 d4 => rs1 = lg.entries.map lineD ∧ rs2 = lg.exits.map lineD ∧ d3 = floorD lg.ef ∧ d4 = floorD lg.xf
theorem take_step {α : Type} {f : α → D} {xs : List α} {i : Nat} {x : α} (h : xs[i]? = some x) : (xs.take (i + 1)).map f = (xs.take i).map f ++ [f x] := by
  rw [List.take_add_one, List.map_append, h]
  rfl
theorem ok_parseLog {f c : Addr} {fd : FuncData} (F : FunC K "parse_log" "parse_log" sParseLog f c fd) (m_len : mg "len" = none) (m_range : mg "range" = none)
    {fL : Addr} {fdL : FuncData} (GL : GLO P w K mg base Tb fL fdL) (gL : mg "line_of" = some (.ref fL)) (kL : PySem.W.keepIn K (.ref fL) = true) (bL : Binds K fdL ["kinds", "text"] [])
    {fO : Addr} {fdO : FuncData} (GO : GFO P w K mg base Tb fO fdO) (gO : mg "floors_of" = some (.ref fO)) (kO : PySem.W.keepIn K (.ref fO) = true) (bO : Binds K fdO ["row"] [])
    (ks : Kinds) (lg : Log) (h : LogK ks lg) : FnOk P w K mg base CX0 5 f fd ["kinds", "text"] (spM Tb 2 (fun ds => ds = [kindsD ks, .str (logT lg)]) (postPG ks lg)) := by
  refine fn_okM (init := (defBody sParseLog).take 5) F scPG rfl rfl fun A outer s H E ds hr hl hp => ?_
  subst hp
  have hlk := h.ok
  have hlen := logT_len hlk
  have hmany := rows_many hlk
  have hn := h.ln
  have hm := h.lx
  refine wpL_cons (wpS_set 2 (wpE_split (wpE_var 1 rfl ⟨_, rfl, wpE_str ⟨_, rfl, rfl, le40 (by omega), ?_⟩⟩)) scPG.nd)
  have e0 : Txt.split (logT lg) ("\n" : Str) = rowsT lg := log_split hlk
  rw [e0]
  show wpL _ _ _ [some (.d (kindsD ks)), some (.d (.str (logT lg))), some (.d (.list ((rowsT lg).map .str))), none, none, none, none, none, none, none, none] _
  refine wpL_cons (wpS_set 3 (wpE_call (GO lg h.ef h.xf) hr gO kO bO (wpA_cons (wpE_ix (wpE_var 2 rfl (wpE_int ⟨.str (row0 lg), at_nat (n := 0) (xs := (rowsT lg).map PyData.str) rfl, wpA_nil ⟨rfl, rfl, fun d hd => ?_⟩⟩))))) scPG.nd)
  subst hd
  show wpL _ _ _ [some (.d (kindsD ks)), some (.d (.str (logT lg))), some (.d (.list ((rowsT lg).map .str))), some (.d (.list [floorD lg.ef, floorD lg.xf])), none, none, none, none, none, none, none] _
  refine wpL_cons (wpS_if (wpT_cmp op_isN ok_is (nomark _) (wpE_var 3 rfl (wpE_none ⟨false, rfl, iteF (wpSs_nil ?_)⟩))))
  refine wpL_cons (wpS_p2LL (i := 4) (j := 5) scPG.nd ⟨rfl, .inl rfl, .inl rfl⟩ ⟨rfl, .inl rfl, .inl rfl⟩ (by decide) rfl (by kernel_rfl) (by kernel_rfl) ?_)
  show wpL _ _ _ [some (.d (kindsD ks)), some (.d (.str (logT lg))), some (.d (.list ((rowsT lg).map .str))), some (.d (.list [floorD lg.ef, floorD lg.xf])), some (.own (.lst [])), some (.own (.lst [])), none, none, none, none, none] _
  have hrl : ((rowsT lg).map PyData.str).length = lg.entries.length + lg.exits.length + 1 := by
    rw [List.length_map]
    unfold rowsT
    rw [List.length_cons, List.length_append, List.length_map, List.length_map]
  refine wpL_cons (wpS_for (wpI_range2 m_range (wpA_cons (wpE_int (wpA_cons (wpE_callB call_lenX ok_len m_len boot_len' (wpA_cons (wpE_var 2 rfl (wpA_nil ⟨(fun _ z => nomatch z), r_lenL ?_⟩)))))))) PassesOwn.never rfl)
  refine wpA_nil ⟨1, _, rfl, ⟨by decide, by decide, by omega, by omega⟩, ?_⟩
  have hcount : (((((rowsT lg).map PyData.str).length : Nat) : Int) - 1).toNat = lg.entries.length + lg.exits.length := by rw [hrl]; omega
  rw [hcount]
  refine ⟨fun i δ' => ∃ s6 s7 s8 s9 s10, δ' = [some (.d (kindsD ks)), some (.d (.str (logT lg))), some (.d (.list ((rowsT lg).map .str))), some (.d (.list [floorD lg.ef, floorD lg.xf])), some (.own (.lst ((lg.entries.take i).map lineD))), some (.own (.lst ((lg.exits.take (i - lg.entries.length)).map lineD))), s6, s7, s8, s9, s10],
    ⟨_, _, _, _, _, by rw [Nat.zero_sub]; rfl⟩, ?_, ?_⟩
  · rintro i d δ' hd ⟨s6, s7, s8, s9, s10, rfl⟩
    obtain ⟨hi, rfl⟩ : i < lg.entries.length + lg.exits.length ∧ d = .int (1 + (i : Nat)) := by
      rw [List.getElem?_map] at hd
      cases e : (List.range (lg.entries.length + lg.exits.length))[i]? with
      | none => rw [e] at hd; cases hd
      | some k =>
        rw [e] at hd
        cases hd
        obtain ⟨h1, h2⟩ := List.getElem?_eq_some_iff.mp e
        rw [List.length_range] at h1
        rw [List.getElem_range] at h2
        subst h2
        exact ⟨h1, rfl⟩
    refine wpG_name 6 ?_ scPG.nd
    show wpSs _ _ _ [some (.d (kindsD ks)), some (.d (.str (logT lg))), some (.d (.list ((rowsT lg).map .str))), some (.d (.list [floorD lg.ef, floorD lg.xf])), some (.own (.lst ((lg.entries.take i).map lineD))), some (.own (.lst ((lg.exits.take (i - lg.entries.length)).map lineD))), some (.d (.int (1 + (i : Nat)))), s7, s8, s9, s10] _
    have hat : ∀ r, (rowsT lg)[i + 1]? = some r → atI ((rowsT lg).map PyData.str) (1 + (i : Nat)) = some (.str r) := fun r hr => by
      rw [show (1 + ((i : Nat) : Int)) = ((i + 1 : Nat) : Int) by omega]
      exact at_nat (by rw [List.getElem?_map, hr]; rfl)
    rcases row_cases hi with ⟨l, hil, hl1, hl2⟩ | ⟨l, hil, hl1, hl2⟩
    · have hgl := h.en l (List.mem_of_getElem? hl1)
      have hrow := rows_len hlk _ (List.mem_of_getElem? hl2)
      refine wpSs_cons (wpS_unp (wpE_partition (wpE_ix (wpE_var 2 rfl (wpE_var 6 rfl ⟨_, hat _ hl2, _, rfl, wpE_str ⟨_, rfl, rfl, le40 (by omega), ?_⟩⟩)))))
      have ep : Txt.partition (rowIn l) (" " : Str) = (("in" : Str), (" " : Str), lineT l) := pre_part (lit_part (by decide +kernel))
      rw [ep]
      refine wpG_tup (js := [7, 8, 9]) (pgs_cons (pg_name (i := 7) scPG.nd rfl (.inl rfl)) (pgs_cons (pg_name (i := 8) scPG.nd rfl (.inl rfl)) (pgs_cons (pg_name (i := 9) scPG.nd rfl (.inl rfl)) pgs_nil))) ⟨_, rfl, rfl, ?_⟩ rfl
      show wpSs _ _ _ [some (.d (kindsD ks)), some (.d (.str (logT lg))), some (.d (.list ((rowsT lg).map .str))), some (.d (.list [floorD lg.ef, floorD lg.xf])), some (.own (.lst ((lg.entries.take i).map lineD))), some (.own (.lst ((lg.exits.take (i - lg.entries.length)).map lineD))), some (.d (.int (1 + (i : Nat)))), some (.d (.str "in")), some (.d (.str " ")), some (.d (.str (lineT l))), s10] _
      refine wpSs_cons (wpS_set 10 (wpE_call (GL ks l hgl) hr gL kL bL (wpA_cons (wpE_var 0 rfl (wpA_cons (wpE_var 9 rfl (wpA_nil ⟨rfl, rfl, fun d hd => ?_⟩)))))) scPG.nd)
      subst hd
      show wpSs _ _ _ [some (.d (kindsD ks)), some (.d (.str (logT lg))), some (.d (.list ((rowsT lg).map .str))), some (.d (.list [floorD lg.ef, floorD lg.xf])), some (.own (.lst ((lg.entries.take i).map lineD))), some (.own (.lst ((lg.exits.take (i - lg.entries.length)).map lineD))), some (.d (.int (1 + (i : Nat)))), some (.d (.str "in")), some (.d (.str " ")), some (.d (.str (lineT l))), some (.d (lineD l))] _
      refine wpSs_cons (wpS_if (wpT_cmp op_isN ok_is (nomark _) (wpE_var 10 rfl (wpE_none ⟨false, rfl, iteF (wpSs_nil ?_)⟩))))
      refine wpSs_one (wpS_if (wpT_cmp (op_eqDD hr.units) ok_eq (nomark _) (wpE_var 7 rfl (wpE_str (r_eqS ⟨_, rfl, ?_⟩)))))
      rw [decide_eq_false (show ¬ ("in" : Str) = ("out" : Str) by decide +kernel)]
      refine iteF (wpSs_one (wpS_if (wpT_W (wpW_and (wpT_cmp (op_eqDD hr.units) ok_eq (nomark _) (wpE_var 7 rfl (wpE_str (r_eqS ⟨_, rfl, ?_⟩))))))))
      rw [decide_eq_true (show ("in" : Str) = ("in" : Str) from rfl)]
      refine iteT (wpW_and1 (wpT_not (wpT_truO 5 rfl ?_)))
      have hz : i - lg.entries.length = 0 := by omega
      rw [hz]
      refine iteT ?_
      refine wpSs_one (wpS_append 4 rfl (wpE_var 10 rfl ⟨?_, ?_⟩) (hpe := fun a b => pe_bm PySem.F.plainAttrs_list PySem.F.slot_list_append PySem.F.type_list_append mt_append a b))
      · rw [List.length_map, List.length_take]
        exact Nat.lt_of_le_of_lt (by omega : min i lg.entries.length ≤ 1000) (by decide)
      · refine ⟨some (.d (.int (1 + (i : Nat)))), some (.d (.str "in")), some (.d (.str " ")), some (.d (.str (lineT l))), some (.d (lineD l)), ?_⟩
        rw [take_step hl1, show i + 1 - lg.entries.length = 0 by omega]
        rfl
    · have hgl := h.ex l (List.mem_of_getElem? hl1)
      have hrow := rows_len hlk _ (List.mem_of_getElem? hl2)
      refine wpSs_cons (wpS_unp (wpE_partition (wpE_ix (wpE_var 2 rfl (wpE_var 6 rfl ⟨_, hat _ hl2, _, rfl, wpE_str ⟨_, rfl, rfl, le40 (by omega), ?_⟩⟩)))))
      have ep : Txt.partition (rowOut l) (" " : Str) = (("out" : Str), (" " : Str), lineT l) := pre_part (lit_part (by decide +kernel))
      rw [ep]
      refine wpG_tup (js := [7, 8, 9]) (pgs_cons (pg_name (i := 7) scPG.nd rfl (.inl rfl)) (pgs_cons (pg_name (i := 8) scPG.nd rfl (.inl rfl)) (pgs_cons (pg_name (i := 9) scPG.nd rfl (.inl rfl)) pgs_nil))) ⟨_, rfl, rfl, ?_⟩ rfl
      show wpSs _ _ _ [some (.d (kindsD ks)), some (.d (.str (logT lg))), some (.d (.list ((rowsT lg).map .str))), some (.d (.list [floorD lg.ef, floorD lg.xf])), some (.own (.lst ((lg.entries.take i).map lineD))), some (.own (.lst ((lg.exits.take (i - lg.entries.length)).map lineD))), some (.d (.int (1 + (i : Nat)))), some (.d (.str "out")), some (.d (.str " ")), some (.d (.str (lineT l))), s10] _
      refine wpSs_cons (wpS_set 10 (wpE_call (GL ks l hgl) hr gL kL bL (wpA_cons (wpE_var 0 rfl (wpA_cons (wpE_var 9 rfl (wpA_nil ⟨rfl, rfl, fun d hd => ?_⟩)))))) scPG.nd)
      subst hd
      show wpSs _ _ _ [some (.d (kindsD ks)), some (.d (.str (logT lg))), some (.d (.list ((rowsT lg).map .str))), some (.d (.list [floorD lg.ef, floorD lg.xf])), some (.own (.lst ((lg.entries.take i).map lineD))), some (.own (.lst ((lg.exits.take (i - lg.entries.length)).map lineD))), some (.d (.int (1 + (i : Nat)))), some (.d (.str "out")), some (.d (.str " ")), some (.d (.str (lineT l))), some (.d (lineD l))] _
      refine wpSs_cons (wpS_if (wpT_cmp op_isN ok_is (nomark _) (wpE_var 10 rfl (wpE_none ⟨false, rfl, iteF (wpSs_nil ?_)⟩))))
      refine wpSs_one (wpS_if (wpT_cmp (op_eqDD hr.units) ok_eq (nomark _) (wpE_var 7 rfl (wpE_str (r_eqS ⟨_, rfl, ?_⟩)))))
      rw [decide_eq_true (show ("out" : Str) = ("out" : Str) from rfl)]
      refine iteT ?_
      refine wpSs_one (wpS_append 5 rfl (wpE_var 10 rfl ⟨?_, ?_⟩) (hpe := fun a b => pe_bm PySem.F.plainAttrs_list PySem.F.slot_list_append PySem.F.type_list_append mt_append a b))
      · rw [List.length_map, List.length_take]
        exact Nat.lt_of_le_of_lt (by omega : min (i - lg.entries.length) lg.exits.length ≤ 1000) (by decide)
      · refine ⟨some (.d (.int (1 + (i : Nat)))), some (.d (.str "out")), some (.d (.str " ")), some (.d (.str (lineT l))), some (.d (lineD l)), ?_⟩
        rw [List.take_of_length_le (by omega : lg.entries.length ≤ i + 1), show i + 1 - lg.entries.length = (i - lg.entries.length) + 1 by omega, take_step hl1, List.take_of_length_le (by omega : lg.entries.length ≤ i)]
        rfl
  · rintro δ' ⟨s6, s7, s8, s9, s10, rfl⟩
    rw [List.length_map, List.length_range]
    rw [List.take_of_length_le (by omega : lg.entries.length ≤ lg.entries.length + lg.exits.length), show lg.entries.length + lg.exits.length - lg.entries.length = lg.exits.length by omega, List.take_length]
    refine wpM_tup 4 5 (by decide) rfl rfl (wpA_cons (wpE_ix (wpE_var 3 rfl (wpE_int ⟨_, rfl, ?_⟩))))
    exact wpA_cons (wpE_ix (wpE_var 3 rfl (wpE_int ⟨_, rfl, wpA_nil ⟨_, _, rfl, rfl, rfl, rfl, rfl⟩⟩)))
end
end K80

set_option Elab.async false
set_option linter.all false
set_option maxRecDepth 100000
set_option maxHeartbeats 1000000
namespace K80
open PySem PySem.Spec L2 DL
/-! ### what repr writes -/
theorem sm_to {p q n m : Nat} {d : D} (h : Sm p n d) (hp : p ≤ q) (hn : n ≤ m) : Sm q m d := (h.up hp).mono hn
theorem smA_all {p n : Nat} : ∀ {ds : List D}, (∀ d ∈ ds, Sm p n d) → SmA p (ds.length * (n + 1)) ds
  | [], _ => by
    rw [List.length_nil, Nat.zero_mul]
    exact smA_nil p
  | x :: xs, h => by
    have e := smA_cons (h x List.mem_cons_self) (smA_all (ds := xs) fun y hy => h y (List.mem_cons_of_mem _ hy))
    refine ⟨e.sh, e.lv, e.dp, Nat.le_trans e.wt ?_⟩
    rw [List.length_cons, Nat.succ_mul]
    omega
theorem sm_listA {p n k m : Nat} {ds : List D} (h : ∀ d ∈ ds, Sm p n d) (hl : ds.length ≤ k) (hm : k * (n + 1) ≤ m) : Sm (p + 1) m (.list ds) :=
  (sm_list (smA_all h)).mono (Nat.le_trans (Nat.mul_le_mul_right _ hl) hm)
theorem sm_tupA {p n k m : Nat} {ds : List D} (h : ∀ d ∈ ds, Sm p n d) (hl : ds.length ≤ k) (hm : k * (n + 1) ≤ m) : Sm (p + 1) m (.tuple ds) :=
  (sm_tuple (smA_all h)).mono (Nat.le_trans (Nat.mul_le_mul_right _ hl) hm)
theorem sm_oS {o : Option Str} (p : Nat) (h : ∀ x, o = some x → Ok8 8 x) : Sm p 8 (oS o) := by
  cases o with
  | none => exact (sm_none p).mono (by decide)
  | some x => exact sm_str p (h x rfl)
theorem sm_floor {o : Option Int} (p : Nat) (h : FlOk o) : Sm p 40 (floorD o) := by
  cases o with
  | none => exact (sm_str (n := 6) p (ok8_text (by decide +kernel) (by decide +kernel))).mono (by decide)
  | some x =>
    have := h x rfl
    exact sm_int p (by omega)
def lp (lg : Log) : List D := [.list (lg.entries.map lineD), .list (lg.exits.map lineD), floorD lg.ef, floorD lg.xf]
theorem Wd.ok8 {x : Str} (h : Wd x) : Ok8 8 x := ⟨h.le, fun c hc => Nat.lt_of_le_of_lt (h.sg c hc).2 (by decide)⟩
theorem sm_line {l : Line} (h : LineOk l) : Sm 1 100 (lineD l) :=
  (sm_tuple (smA_cons (sm_int 0 (by have := h.t0; have := h.t1; omega)) (smA_cons (sm_oS 0 fun x e => (h.kd x e).ok8) (smA_cons (sm_oS 0 fun x e => (h.pl x e).ok8) (smA_nil 0))))).mono (by decide)
theorem sm_linesD {ls : List Line} (h : ∀ l ∈ ls, LineOk l) (hl : ls.length ≤ 80) : Sm 2 9000 (.list (ls.map lineD)) :=
  sm_listA (n := 100) (k := 80) (fun d hd => by
    obtain ⟨l, hl, rfl⟩ := List.mem_map.mp hd
    exact sm_line (h l hl)) (by rw [List.length_map]; exact hl) (by decide)
theorem sm_log {lg : Log} (h : LogOk lg) : Sm 3 20000 (logD lg) :=
  (sm_tuple (smA_cons (sm_linesD h.en h.ln) (smA_cons (sm_linesD h.ex h.lx) (smA_cons (sm_floor 2 h.ef) (smA_cons (sm_floor 2 h.xf) (smA_nil 2)))))).mono (by decide)
theorem r_reprT {p n : Nat} {ds : List D} {P : D → Prop} (h : Sm p n (.tuple ds)) (hp : p ≤ 64) (hn : n ≤ 2 ^ 20) (q : P (.str (PyData.shown (.tuple ds)))) : reprR [.tuple ds] P :=
  ⟨⟨h.sh, Nat.le_trans h.dp hp, PyData.shown_fits (B := 13) (by decide) (by decide) h.lv (Nat.le_trans h.wt hn)⟩, q⟩
section
variable {P : Program} {w : World} {K : PySem.W.Frag} {mg : Str → Option Value} {base : Heap} {Tb : List Addr}
abbrev nSM : List Str := ["one", "other"]
theorem scSM : FnScope nSM ["one", "other"] (defScope sSame) := ⟨rfl, rfl, rfl, by decide +kernel, rfl, by decide +kernel, by decide +kernel⟩
abbrev preSm : List D → Prop := fun ds => ∃ xs : List D, ds = [.tuple xs, .tuple xs] ∧ Sm 3 20000 (.tuple xs)
abbrev GSame (P : Program) (w : World) (K : PySem.W.Frag) (mg : Str → Option Value) (base : Heap) (Tb : List Addr) (f : Addr) (fd : FuncData) : Prop := FnG P w K mg base 1 f fd ["one", "other"] (spD Tb 0 2 preSm fun _ d => d = .bool true)
theorem ok_same {f c : Addr} {fd : FuncData} (F : FunC K "_law_is_same" "_law_is_same" sSame f c fd) (m_repr : mg "repr" = none) : GSame P w K mg base Tb f fd := by
  refine fn_okG F scSM rfl fun A outer s H E ds hr qt hl hp => ?_
  obtain ⟨xs, rfl, hS⟩ := hp
  have hu : (A.deeper (PyProof.Rows.envOfC "_law_is_same" (defScope sSame) s.heap.objs.size f (.ref c))).units + 80 < cLine := by have := hr.un; omega
  refine wpSs_one (wpS_ret (wpE_cmp (op_eqDD hr.units) ok_eq (nomark _) (wpE_callB (call_reprQ qt hu) ok_repr m_repr boot_repr' (wpA_cons (wpE_var 0 rfl (wpA_nil (r_reprT hS (by decide) (by decide) ?_)))))))
  refine wpE_callB (call_reprQ qt hu) ok_repr m_repr boot_repr' (wpA_cons (wpE_var 1 rfl (wpA_nil (r_reprT hS (by decide) (by decide) (r_eqS ?_)))))
  exact congrArg PyData.bool (decide_eq_true rfl)
/-! ### the law's own texts -/
abbrev nLT : List Str := ["line", "part"]
theorem scLT : FnScope nLT ["line"] (defScope sLineText) := ⟨rfl, rfl, rfl, by decide +kernel, rfl, by decide +kernel, by decide +kernel⟩
def partD : D → D
  | .none => .str "-"
  | .int i => .str (numS i)
  | d => d
theorem ok_lineText {f c : Addr} {fd : FuncData} (F : FunC K "_law_line_text" "_law_line_text" sLineText f c fd) (m_str : mg "str" = none) (l : Line) (h : LineOk l) : FnOk P w K mg base CX0 1 f fd ["line"] (FnV Tb [lineD l] (.str (lineT l))) := by
  refine fn_ok F scLT (by decide) rfl fun A outer s H E ds hr hl hp => ?_
  subst hp
  refine wpSs_one (wpS_ret (wpE_join (wpE_str ⟨_, rfl, ?_⟩)))
  refine wpE_lc (c := none) 1 rfl (wpI_tup (wpE_var 0 rfl ⟨_, rfl, ?_⟩)) rfl scLT.nd (blkOk_by (N := nLT) (sc := defScope sLineText) (by decide +kernel)) rfl
  refine ⟨by show 3 < sizeLine; decide, fun i acc => acc = ([PyData.int l.time, oS l.kind, oS l.plate].take i).map partD, rfl, fun i d acc hd hv z H' C cl fp => ?_, fun acc hv => ?_⟩
  · obtain ⟨x, hx, ex, st⟩ := mapL_step (f := id) (g := partD) (xs := [PyData.int l.time, oS l.kind, oS l.plate]) hd hv
    have ex : d = x := ex
    obtain rfl : x = d := ex.symm
    refine wpE_mono (P := fun y => y = partD x) ?_ st
    have hxx : x = .int l.time ∨ (x = .none ∨ ∃ z : Str, x = .str z) := by
      simp only [List.mem_cons, List.not_mem_nil, or_false] at hx
      rcases hx with rfl | rfl | rfl
      · exact .inl rfl
      · cases l.kind with
        | none => exact .inr (.inl rfl)
        | some k => exact .inr (.inr ⟨k, rfl⟩)
      · cases l.plate with
        | none => exact .inr (.inl rfl)
        | some k => exact .inr (.inr ⟨k, rfl⟩)
    rcases hxx with rfl | rfl | ⟨y, rfl⟩
    · exact wpE_ifExp (wpT_cmp op_isN ok_is (nomark _) (wpE_var 1 rfl (wpE_none ⟨false, rfl, iteF (wpE_callTy call_strX ok_str m_str boot_str (wpA_cons (wpE_var 1 rfl (wpA_nil ⟨log2_small h.t0 h.t1, rfl⟩))))⟩)))
    · exact wpE_ifExp (wpT_cmp op_isN ok_is (nomark _) (wpE_var 1 rfl (wpE_none ⟨true, rfl, iteT (wpE_str rfl)⟩)))
    · refine wpE_ifExp (wpT_cmp op_isN ok_is (nomark _) (wpE_var 1 rfl (wpE_none ⟨false, rfl, iteF (wpE_callTy call_strX ok_str m_str boot_str (wpA_cons (wpE_var 1 rfl (wpA_nil ?_))))⟩)))
      exact (rfl : PyData.str y = partD (.str y))
  have hv := mapL_end (f := id) (g := partD) (xs := [PyData.int l.time, oS l.kind, oS l.plate]) hv
  subst hv
  have e0 : [PyData.int l.time, oS l.kind, oS l.plate].map partD = [numS l.time, partS l.kind, partS l.plate].map .str := by
    obtain ⟨t, k, p⟩ := l
    cases k <;> cases p <;> rfl
  refine ⟨[numS l.time, partS l.kind, partS l.plate], congrArg PyData.list e0, ?_, ?_⟩
  · have p1 := (num_part h.t0 h.t1).le
    have p2 := (part_part h.kd).le
    have p3 := (part_part h.pl).le
    have es : (" " : Str).length = 1 := by decide +kernel
    rw [es]
    show (numS l.time).length + ((partS l.kind).length + ((partS l.plate).length + 0)) + 3 * 1 ≤ 16777216
    omega
  · exact congrArg PyData.str (three_join _ _ _).symm
abbrev GLT (P : Program) (w : World) (K : PySem.W.Frag) (mg : Str → Option Value) (base : Heap) (Tb : List Addr) (f : Addr) (fd : FuncData) : Prop := ∀ l : Line, LineOk l → FnOk P w K mg base CX0 1 f fd ["line"] (FnV Tb [lineD l] (.str (lineT l)))
abbrev nGT : List Str := ["log", "lines", "line"]
theorem scGT : FnScope nGT ["log"] (defScope sLogText) := ⟨rfl, rfl, rfl, by decide +kernel, rfl, by decide +kernel, by decide +kernel⟩
theorem str_floor {o : Option Int} (h : FlOk o) {Q : D → Prop} (q : Q (.str (floorT o))) : strR [floorD o] Q := by
  cases o with
  | none => exact q
  | some x => exact ⟨log2_small (h x rfl).1 (h x rfl).2, q⟩
theorem ok_logText {f c : Addr} {fd : FuncData} (F : FunC K "_law_log_text" "_law_log_text" sLogText f c fd) (m_str : mg "str" = none)
    {fL : Addr} {fdL : FuncData} (GL : GLT P w K mg base Tb fL fdL) (gL : mg "_law_line_text" = some (.ref fL)) (kL : PySem.W.keepIn K (.ref fL) = true) (bL : Binds K fdL ["line"] [])
    (lg : Log) (h : LogOk lg) : FnOk P w K mg base CX0 2 f fd ["log"] (FnV Tb [logD lg] (.str (logT lg))) := by
  refine fn_ok F scGT (by decide) rfl fun A outer s H E ds hr hl hp => ?_
  subst hp
  have p1 := (floor_part h.ef).le
  have p2 := (floor_part h.xf).le
  have hl1 := h.ln
  have hl2 := h.lx
  have es : (" " : Str).length = 1 := by decide +kernel
  have ef : ("floors " : Str).length = 7 := by decide +kernel
  refine wpSs_cons (wpS_set 1 (wpE_lst (wpA_cons (wpE_bin op_addD ok_add (wpE_bin op_addD ok_add (wpE_bin op_addD ok_add (wpE_str ?_)))))) scGT.nd)
  refine wpE_callTy call_strX ok_str m_str boot_str (wpA_cons (wpE_ix (wpE_var 0 rfl (wpE_int ⟨floorD lg.ef, rfl, wpA_nil ?_⟩))))
  refine str_floor h.ef ?_
  refine ⟨le40 (by omega), wpE_str ⟨by rw [strLen_append]; exact le40 (by omega), ?_⟩⟩
  refine wpE_callTy call_strX ok_str m_str boot_str (wpA_cons (wpE_ix (wpE_var 0 rfl (wpE_int ⟨floorD lg.xf, rfl, wpA_nil ?_⟩))))
  refine str_floor h.xf ?_
  refine ⟨by rw [strLen_append, strLen_append]; exact le40 (by omega), ?_⟩
  have e0 : ("floors " : Str) ++ floorT lg.ef ++ " " ++ floorT lg.xf = row0 lg := by
    unfold row0
    have : ("floors " : Str) = "floors" ++ " " := by decide +kernel
    rw [this]
  rw [e0]
  refine wpA_nil ⟨by show 1 ≤ sizeLine; decide, ?_⟩
  show wpSs _ _ _ [some (.d (logD lg)), some (.d (.list [.str (row0 lg)])), none] _
  refine wpSs_cons (wpS_set 1 (wpE_bin op_addD ok_add (wpE_var 1 rfl ?_)) scGT.nd)
  refine wpE_lc (c := none) 2 rfl (wpI_list (wpE_ix (wpE_var 0 rfl (wpE_int ⟨_, rfl, lg.entries.map lineD, rfl, ?_⟩)))) rfl scGT.nd (blkOk_by (N := nGT) (sc := defScope sLogText) (by decide +kernel)) rfl
  refine ⟨by rw [List.length_map]; exact Nat.lt_of_le_of_lt hl1 (by decide), fun i acc => acc = (lg.entries.take i).map (fun l => .str (rowIn l)), rfl, fun i d acc hd hv z H' C cl fp => ?_, fun acc hv => ?_⟩
  · obtain ⟨l, hl, rfl, st⟩ := mapL_step hd hv
    refine wpE_mono (P := fun y => y = .str (rowIn l)) ?_ st
    refine wpE_bin op_addD ok_add (wpE_str (wpE_call (GL l (h.en l hl)) hr gL kL bL (wpA_cons (wpE_var 2 rfl (wpA_nil ⟨rfl, rfl, fun d hd => ?_⟩)))))
    subst hd
    have := lineT_len (h.en l hl)
    have e3 : ("in " : Str).length = 3 := by decide +kernel
    refine ⟨le40 (by omega), ?_⟩
    have : ("in " : Str) = "in" ++ " " := by decide +kernel
    show PyData.str (("in " : Str) ++ lineT l) = PyData.str (rowIn l)
    rw [this]
    rfl
  have hv := mapL_end hv
  subst hv
  refine ⟨?_, ?_⟩
  · rw [List.length_map]
    exact le40 (by show 1 + _ ≤ _; omega)
  show wpSs _ _ _ [some (.d (logD lg)), some (.d (.list ([.str (row0 lg)] ++ lg.entries.map (fun l => .str (rowIn l))))), none] _
  refine wpSs_one (wpS_ret (wpE_join (wpE_str ⟨_, rfl, wpE_bin op_addD ok_add (wpE_var 1 rfl ?_)⟩)))
  refine wpE_lc (c := none) 2 rfl (wpI_list (wpE_ix (wpE_var 0 rfl (wpE_int ⟨_, rfl, lg.exits.map lineD, rfl, ?_⟩)))) rfl scGT.nd (blkOk_by (N := nGT) (sc := defScope sLogText) (by decide +kernel)) rfl
  refine ⟨by rw [List.length_map]; exact Nat.lt_of_le_of_lt hl2 (by decide), fun i acc => acc = (lg.exits.take i).map (fun l => .str (rowOut l)), rfl, fun i d acc hd hv z H' C cl fp => ?_, fun acc hv => ?_⟩
  · obtain ⟨l, hl, rfl, st⟩ := mapL_step hd hv
    refine wpE_mono (P := fun y => y = .str (rowOut l)) ?_ st
    refine wpE_bin op_addD ok_add (wpE_str (wpE_call (GL l (h.ex l hl)) hr gL kL bL (wpA_cons (wpE_var 2 rfl (wpA_nil ⟨rfl, rfl, fun d hd => ?_⟩)))))
    subst hd
    have := lineT_len (h.ex l hl)
    have e3 : ("out " : Str).length = 4 := by decide +kernel
    refine ⟨le40 (by omega), ?_⟩
    have : ("out " : Str) = "out" ++ " " := by decide +kernel
    show PyData.str (("out " : Str) ++ lineT l) = PyData.str (rowOut l)
    rw [this]
    rfl
  have hv := mapL_end hv
  subst hv
  have er : ([.str (row0 lg)] ++ lg.entries.map (fun l => PyData.str (rowIn l))) ++ lg.exits.map (fun l => PyData.str (rowOut l)) = (rowsT lg).map .str := by
    unfold rowsT
    rw [List.map_cons, List.map_append, List.map_map, List.map_map]
    rfl
  refine ⟨?_, rowsT lg, congrArg PyData.list er, Nat.le_trans (rows_sum h) (by decide), rfl⟩
  rw [List.length_append, List.length_map, List.length_map]
  exact le40 (by show 1 + _ + _ ≤ _; omega)
abbrev GGT (P : Program) (w : World) (K : PySem.W.Frag) (mg : Str → Option Value) (base : Heap) (Tb : List Addr) (f : Addr) (fd : FuncData) : Prop := ∀ lg : Log, LogOk lg → FnOk P w K mg base CX0 2 f fd ["log"] (FnV Tb [logD lg] (.str (logT lg)))
end
end K80

set_option Elab.async false
set_option linter.all false
set_option maxRecDepth 100000
set_option maxHeartbeats 1000000
namespace K80
open PySem PySem.Spec L2 DL
section
variable {P : Program} {w : World} {K : PySem.W.Frag} {mg : Str → Option Value} {base : Heap} {Tb : List Addr}
abbrev GFG (P : Program) (w : World) (K : PySem.W.Frag) (mg : Str → Option Value) (base : Heap) (Tb : List Addr) (f : Addr) (fd : FuncData) : Prop := ∀ lg : Log, LogOk lg → FnOk P w K mg base CX0 3 f fd ["log"] (FnV Tb [logD lg] (.str (logT lg)))
abbrev GPG (P : Program) (w : World) (K : PySem.W.Frag) (mg : Str → Option Value) (base : Heap) (Tb : List Addr) (f : Addr) (fd : FuncData) : Prop := ∀ (ks : Kinds) (lg : Log), LogK ks lg → FnOk P w K mg base CX0 5 f fd ["kinds", "text"] (spM Tb 2 (fun ds => ds = [kindsD ks, .str (logT lg)]) (postPG ks lg))
abbrev preLR : List D → Prop := fun ds => ∃ (ks : Kinds) (lg : Log), ds = [kindsD ks, logD lg] ∧ LogK ks lg
abbrev nLR : List Str := ["kinds", "log", "text", "shown", "found"]
theorem scLR : FnScope nLR ["kinds", "log"] (defScope sLogRight) := ⟨rfl, rfl, rfl, by decide +kernel, rfl, by decide +kernel, by decide +kernel⟩
abbrev GLR (P : Program) (w : World) (K : PySem.W.Frag) (mg : Str → Option Value) (base : Heap) (Tb : List Addr) (f : Addr) (fd : FuncData) : Prop := FnG P w K mg base 6 f fd ["kinds", "log"] (spD Tb 0 2 preLR fun _ d => d = .bool true)
theorem ok_logRight {f c : Addr} {fd : FuncData} (F : FunC K "_law_log_is_right" "_law_log_is_right" sLogRight f c fd) (m_repr : mg "repr" = none)
    {fT : Addr} {fdT : FuncData} (GT : GGT P w K mg base Tb fT fdT) (gT : mg "_law_log_text" = some (.ref fT)) (kT : PySem.W.keepIn K (.ref fT) = true) (bT : Binds K fdT ["log"] [])
    {fF : Addr} {fdF : FuncData} (GF : GFG P w K mg base Tb fF fdF) (gF : mg "format_log" = some (.ref fF)) (kF : PySem.W.keepIn K (.ref fF) = true) (bF : Binds K fdF ["log"] [])
    {fP : Addr} {fdP : FuncData} (GP : GPG P w K mg base Tb fP fdP) (gP : mg "parse_log" = some (.ref fP)) (kP : PySem.W.keepIn K (.ref fP) = true) (bP : Binds K fdP ["kinds", "text"] [])
    {fS : Addr} {fdS : FuncData} (GS : GSame P w K mg base Tb fS fdS) (gS : mg "_law_is_same" = some (.ref fS)) (kS : PySem.W.keepIn K (.ref fS) = true) (bS : Binds K fdS ["one", "other"] []) : GLR P w K mg base Tb f fd := by
  refine fn_okG F scLR rfl fun A outer s H E ds hr qt hl hp => ?_
  obtain ⟨ks, lg, rfl, h⟩ := hp
  have hu : (A.deeper (PyProof.Rows.envOfC "_law_log_is_right" (defScope sLogRight) s.heap.objs.size f (.ref c))).units + 80 < cLine := by have := hr.un; omega
  have hr2 : Room 2 (A.deeper (PyProof.Rows.envOfC "_law_log_is_right" (defScope sLogRight) s.heap.objs.size f (.ref c))) := hr.mono (by decide)
  have hr3 : Room 3 (A.deeper (PyProof.Rows.envOfC "_law_log_is_right" (defScope sLogRight) s.heap.objs.size f (.ref c))) := hr.mono (by decide)
  have hr1 : Room 1 (A.deeper (PyProof.Rows.envOfC "_law_log_is_right" (defScope sLogRight) s.heap.objs.size f (.ref c))) := hr.mono (by decide)
  have hS := sm_log h.ok
  have hn := h.ln
  refine wpSs_cons (wpS_set 2 (wpE_call (GT lg h.ok) hr2 gT kT bT (wpA_cons (wpE_var 1 rfl (wpA_nil ⟨rfl, rfl, fun d hd => ?_⟩)))) scLR.nd)
  subst hd
  show wpSs _ _ _ [some (.d (kindsD ks)), some (.d (logD lg)), some (.d (.str (logT lg))), none, none] _
  refine wpSs_cons (wpS_set 3 (wpE_callB (call_reprQ qt hu) ok_repr m_repr boot_repr' (wpA_cons (wpE_var 1 rfl (wpA_nil (r_reprT hS (by decide) (by decide) ?_))))) scLR.nd)
  obtain ⟨sn, esn⟩ : ∃ sn, sn = PyData.shown (logD lg) := ⟨_, rfl⟩
  show wpSs _ _ _ [some (.d (kindsD ks)), some (.d (logD lg)), some (.d (.str (logT lg))), some (.d (.str (PyData.shown (logD lg)))), none] _
  refine wpSs_cons (wpS_if (wpT_W (wpW_or (wpT_cmp (op_neDD hr.units) ok_ne (nomark _) (wpE_call (GF lg h.ok) hr3 gF kF bF (wpA_cons (wpE_var 1 rfl (wpA_nil ⟨rfl, rfl, fun d hd => ?_⟩))))))))
  subst hd
  refine wpE_var 2 rfl (r_eqS ⟨_, rfl, ?_⟩)
  rw [decide_eq_true rfl]
  refine iteF (wpW_or1 (wpT_cmp (op_neDD hr.units) ok_ne (nomark _) (wpE_callB (call_reprQ qt hu) ok_repr m_repr boot_repr' (wpA_cons (wpE_var 1 rfl (wpA_nil (r_reprT hS (by decide) (by decide) ?_)))))))
  refine wpE_var 3 rfl (r_eqS ⟨_, rfl, ?_⟩)
  show (if (!decide (PyData.shown (logD lg) = PyData.shown (logD lg))) = true then _ else _)
  rw [decide_eq_true rfl]
  refine iteF (wpSs_nil ?_)
  refine wpSs_scrap 4 (GP ks lg h) hr gP kP bP (fun i o z => ?_) rfl ?_ scLR.nd (hpe := fun a b => pe_bm PySem.F.plainAttrs_list PySem.F.slot_list_append PySem.F.type_list_append mt_append a b) (hpe0 := fun a => pe_bm0 PySem.F.plainAttrs_list PySem.F.slot_list_clear PySem.F.type_list_clear mt_clear a)
  · match i, z with
    | 0, z => cases z
    | 1, z => cases z
    | 2, z => cases z
    | 3, z => cases z
    | 4, z => cases z
    | _ + 5, z => cases z
  refine wpA_cons (wpE_var 0 rfl (wpA_cons (wpE_var 2 rfl (wpA_nil ⟨rfl, rfl, fun rs1 rs2 d3 d4 hq => ?_⟩))))
  obtain ⟨rfl, rfl, rfl, rfl⟩ := hq
  refine ⟨by rw [List.length_map]; exact Nat.lt_of_le_of_lt hn (by decide), ?_, ?_⟩
  · refine wpT_not (wpT_val (wpE_callG GS qt hr1 gS kS bS (wpA_cons (wpE_var 4 rfl (wpA_cons (wpE_var 1 rfl (wpA_nil ⟨rfl, ⟨_, rfl, hS⟩, fun d hd => ?_⟩)))))))
    subst hd
    exact ⟨true, rfl, rfl⟩
  · refine wpSs_one (wpS_ret (wpE_callG GS qt hr1 gS kS bS (wpA_cons (wpE_call (spM_spD (GP ks lg h)) hr gP kP bP ?_))))
    refine wpA_cons (wpE_var 0 rfl (wpA_cons (wpE_var 2 rfl (wpA_nil ⟨rfl, rfl, fun d hd => ?_⟩))))
    obtain ⟨rs1, rs2, d3, d4, rfl, rfl, rfl, rfl, rfl⟩ := hd
    exact wpA_cons (wpE_var 1 rfl (wpA_nil ⟨rfl, ⟨_, rfl, hS⟩, fun d hd => hd⟩))
/-! ### the law -/
theorem map_get {α : Type} {f : α → D} {xs : List α} {i : Nat} {d : D} (h : (xs.map f)[i]? = some d) : ∃ r, xs[i]? = some r ∧ r ∈ xs ∧ d = f r := by
  rw [List.getElem?_map] at h
  cases e : xs[i]? with
  | none => rw [e] at h; cases h
  | some r =>
    rw [e] at h
    cases h
    exact ⟨r, rfl, List.mem_of_getElem? e, rfl⟩
abbrev nLaw : List Str := ["script", "k", "feed", "kinds", "turn", "line", "text"]
theorem scLaw : FnScope nLaw ["script"] (defScope sLaw) := ⟨rfl, rfl, rfl, by decide +kernel, rfl, by decide +kernel, by decide +kernel⟩
abbrev GKinds (P : Program) (w : World) (K : PySem.W.Frag) (mg : Str → Option Value) (base : Heap) (Tb : List Addr) (f : Addr) (fd : FuncData) : Prop := FnOk P w K mg base CX0 3 f fd ["feed"] (spD Tb 1 0 (fun ds => ds = []) fun _ d => ∃ ks : Kinds, d = kindsD ks ∧ GoodK ks)
theorem line_log {ks : Kinds} {l : Line} (h : LnK ks l) : LogK ks ⟨List.replicate 80 l, List.replicate 80 l, some 0, some 0⟩ :=
  ⟨fun x hx => by rw [(List.mem_replicate.mp hx).2]; exact h, fun x hx => by rw [(List.mem_replicate.mp hx).2]; exact h, by rw [List.length_replicate]; exact Nat.le_refl _, by rw [List.length_replicate]; exact Nat.le_refl _, fun x e => by cases e; omega, fun x e => by cases e; omega⟩
theorem rep_lines (l : Line) : (List.replicate 80 [lineD l]).flatten = (List.replicate 80 l).map lineD := by
  rw [List.map_replicate, List.flatten_replicate_singleton]
theorem law_body {fL c : Addr} {s : Shared} {H : Hp} {E : XK} {ns : List Int} (hpre : ns.length ≤ 63) (hr : Room 6 (callerA.deeper (PyProof.Rows.envOfC "law" (defScope sLaw) s.heap.objs.size fL (.ref c)))) (h0 : H sysModules = none) (h1 : s.heap.get? sysModules ≠ none)
    (m_range : mg "range" = none) (m_max : mg "max" = none) (m_min : mg "min" = none) (m_len : mg "len" = none)
    {fT : Addr} {fdT : FuncData} (GT : GTake P w K mg base Tb fT fdT) (gT : mg "_law_take" = some (.ref fT)) (kT : PySem.W.keepIn K (.ref fT) = true) (bT : Binds K fdT ["feed", "size"] [])
    {fF : Addr} {fdF : FuncData} (GF : FnOk P w K mg base CX0 1 fF fdF ["script", "k"] (spFeedG K)) (gF : mg "_law_feed" = some (.ref fF)) (kF : PySem.W.keepIn K (.ref fF) = true) (bF : Binds K fdF ["script", "k"] [])
    {fK : Addr} {fdK : FuncData} (GK : GKinds P w K mg base Tb fK fdK) (gK : mg "_law_any_kinds" = some (.ref fK)) (kK : PySem.W.keepIn K (.ref fK) = true) (bK : Binds K fdK ["feed"] [])
    {fN : Addr} {fdN : FuncData} (GN : GAnyLine P w K mg base Tb fN fdN) (gN : mg "_law_any_line" = some (.ref fN)) (kN : PySem.W.keepIn K (.ref fN) = true) (bN : Binds K fdN ["feed", "kinds"] [])
    {fG : Addr} {fdG : FuncData} (GG : GAnyLog P w K mg base Tb fG fdG) (gG : mg "_law_any_log" = some (.ref fG)) (kG : PySem.W.keepIn K (.ref fG) = true) (bG : Binds K fdG ["feed", "kinds", "most"] [])
    {fX : Addr} {fdX : FuncData} (GX' : GLT P w K mg base Tb fX fdX) (gX : mg "_law_line_text" = some (.ref fX)) (kX : PySem.W.keepIn K (.ref fX) = true) (bX : Binds K fdX ["line"] [])
    {fM : Addr} {fdM : FuncData} (GM : GFL P w K mg base Tb fM fdM) (gM : mg "format_line" = some (.ref fM)) (kM : PySem.W.keepIn K (.ref fM) = true) (bM : Binds K fdM ["line"] [])
    {fQ : Addr} {fdQ : FuncData} (GQ : GPL P w K mg base Tb fQ fdQ) (gQ : mg "parse_line" = some (.ref fQ)) (kQ : PySem.W.keepIn K (.ref fQ) = true) (bQ : Binds K fdQ ["kinds", "text"] [])
    {fS : Addr} {fdS : FuncData} (GS : GSame P w K mg base Tb fS fdS) (gS : mg "_law_is_same" = some (.ref fS)) (kS : PySem.W.keepIn K (.ref fS) = true) (bS : Binds K fdS ["one", "other"] [])
    {fR : Addr} {fdR : FuncData} (GR : GLR P w K mg base Tb fR fdR) (gR : mg "_law_log_is_right" = some (.ref fR)) (kR : PySem.W.keepIn K (.ref fR) = true) (bR : Binds K fdR ["kinds", "log"] []) :
    wpSs (cxOf CX0 P w K mg base nLaw "law" (defScope sLaw) fL (.ref c) callerA [] s H E).nox Tb (defBody sLaw) (startS ns nLaw) { nx := fun _ => False, rt := fun d => d = .bool true } := by
  have hr5 : Room 5 (callerA.deeper (PyProof.Rows.envOfC "law" (defScope sLaw) s.heap.objs.size fL (.ref c))) := hr.mono (by decide)
  have hr4 : Room 4 (callerA.deeper (PyProof.Rows.envOfC "law" (defScope sLaw) s.heap.objs.size fL (.ref c))) := hr.mono (by decide)
  have hr3 : Room 3 (callerA.deeper (PyProof.Rows.envOfC "law" (defScope sLaw) s.heap.objs.size fL (.ref c))) := hr.mono (by decide)
  have hr2 : Room 2 (callerA.deeper (PyProof.Rows.envOfC "law" (defScope sLaw) s.heap.objs.size fL (.ref c))) := hr.mono (by decide)
  have hr1 : Room 1 (callerA.deeper (PyProof.Rows.envOfC "law" (defScope sLaw) s.heap.objs.size fL (.ref c))) := hr.mono (by decide)
  have qt : Qt (cxOf CX0 P w K mg base nLaw "law" (defScope sLaw) fL (.ref c) callerA [] s H E).nox := ⟨rfl, h0, h1, rfl⟩
  refine wpSs_cons (wpS_for (wpI_range m_range ?_) PassesOwn.never rfl)
  refine wpA_cons (wpE_callB (call_max2 rfl) ok_max m_max PyProof.Rows.boot_max ?_)
  repeat (first | ((with_reducible show wpA _ _ (_ :: _) _ _); refine wpA_cons ?_) | with_reducible refine wpA_nil ?_ | with_reducible refine wpE_int ?_ | with_reducible refine wpE_none ?_ | with_reducible refine wpE_bool ?_ | with_reducible refine wpE_str ?_ | with_reducible refine r_addI ?_ | with_reducible refine r_subI ?_ | with_reducible refine r_small (by with_unfolding_all rfl) ?_ | with_reducible refine r_addL (by with_unfolding_all rfl) ?_ | ((with_reducible show wpE _ _ (.Name _ _) _ _); first | refine wpE_var 0 rfl ?_ | refine wpE_var 1 rfl ?_ | refine wpE_var 2 rfl ?_ | refine wpE_var 3 rfl ?_ | refine wpE_var 4 rfl ?_ | refine wpE_var 5 rfl ?_ | refine wpE_var 6 rfl ?_ | refine wpE_var 7 rfl ?_ | refine wpE_var 8 rfl ?_ | refine wpE_var 9 rfl ?_ | refine wpE_var 10 rfl ?_ | refine wpE_var 11 rfl ?_ | refine wpE_var 12 rfl ?_ | refine wpE_var 13 rfl ?_) | ((with_reducible show wpE _ _ (.Tuple _ _ _) _ _); refine wpE_tup ?_) | ((with_reducible show wpE _ _ (.List _ _) _ _); refine wpE_lst ?_) | ((with_reducible show wpE _ _ (.BinOp _ .Add _ _) _ _); refine wpE_bin op_addD ok_add ?_) | ((with_reducible show wpE _ _ (.BinOp _ .Sub _ _) _ _); refine wpE_bin op_sub ok_sub ?_) | ((with_reducible show wpE _ _ (.Dict [_, _] _ _) _ _); refine wpE_disp2 ?_) | ((with_reducible show wpE _ _ (.Dict [_] _ _) _ _); refine wpE_disp1 ?_) | with_reducible refine r_d2 (by decide +kernel) ?_ | with_reducible refine r_d1 ?_)
  refine wpE_callB (call_min2 rfl) ok_min m_min PyProof.Rows.boot_min ?_
  repeat (first | ((with_reducible show wpA _ _ (_ :: _) _ _); refine wpA_cons ?_) | with_reducible refine wpA_nil ?_ | with_reducible refine wpE_int ?_ | with_reducible refine wpE_none ?_ | with_reducible refine wpE_bool ?_ | with_reducible refine wpE_str ?_ | with_reducible refine r_addI ?_ | with_reducible refine r_subI ?_ | with_reducible refine r_small (by with_unfolding_all rfl) ?_ | with_reducible refine r_addL (by with_unfolding_all rfl) ?_ | ((with_reducible show wpE _ _ (.Name _ _) _ _); first | refine wpE_var 0 rfl ?_ | refine wpE_var 1 rfl ?_ | refine wpE_var 2 rfl ?_ | refine wpE_var 3 rfl ?_ | refine wpE_var 4 rfl ?_ | refine wpE_var 5 rfl ?_ | refine wpE_var 6 rfl ?_ | refine wpE_var 7 rfl ?_ | refine wpE_var 8 rfl ?_ | refine wpE_var 9 rfl ?_ | refine wpE_var 10 rfl ?_ | refine wpE_var 11 rfl ?_ | refine wpE_var 12 rfl ?_ | refine wpE_var 13 rfl ?_) | ((with_reducible show wpE _ _ (.Tuple _ _ _) _ _); refine wpE_tup ?_) | ((with_reducible show wpE _ _ (.List _ _) _ _); refine wpE_lst ?_) | ((with_reducible show wpE _ _ (.BinOp _ .Add _ _) _ _); refine wpE_bin op_addD ok_add ?_) | ((with_reducible show wpE _ _ (.BinOp _ .Sub _ _) _ _); refine wpE_bin op_sub ok_sub ?_) | ((with_reducible show wpE _ _ (.Dict [_, _] _ _) _ _); refine wpE_disp2 ?_) | ((with_reducible show wpE _ _ (.Dict [_] _ _) _ _); refine wpE_disp1 ?_) | with_reducible refine r_d2 (by decide +kernel) ?_ | with_reducible refine r_d1 ?_)
  refine wpE_lenS 0 rfl m_len ?_
  refine wpA_nil (r_min (wpA_nil (r_max (wpA_nil ⟨_, rfl, ⟨by omega, by omega⟩, ?_⟩))))
  refine ⟨fun i δ' => ∃ s1 s2 s3 s4 s5 s6, δ' = [some (.scr ns), s1, s2, s3, s4, s5, s6], ⟨_, _, _, _, _, _, rfl⟩, ?_, ?_⟩
  · rintro i d δ' hd ⟨s1, s2, s3, s4, s5, s6, rfl⟩
    obtain ⟨k, _, _, rfl⟩ := map_get (f := fun (i : Nat) => PyData.int (0 + (i : Nat))) hd
    refine wpG_name 1 ?_ scLaw.nd
    show wpSs _ _ _ [some (.scr ns), some (.d (.int (0 + (k : Nat)))), s2, s3, s4, s5, s6] _
    refine wpSs_cons (wpS_feedG 0 2 GF hr1 gF kF bF rfl ?_ scLaw.nd)
    repeat (first | ((with_reducible show wpA _ _ (_ :: _) _ _); refine wpA_cons ?_) | with_reducible refine wpA_nil ?_ | with_reducible refine wpE_int ?_ | with_reducible refine wpE_none ?_ | with_reducible refine wpE_bool ?_ | with_reducible refine wpE_str ?_ | with_reducible refine r_addI ?_ | with_reducible refine r_subI ?_ | with_reducible refine r_small (by with_unfolding_all rfl) ?_ | with_reducible refine r_addL (by with_unfolding_all rfl) ?_ | ((with_reducible show wpE _ _ (.Name _ _) _ _); first | refine wpE_var 0 rfl ?_ | refine wpE_var 1 rfl ?_ | refine wpE_var 2 rfl ?_ | refine wpE_var 3 rfl ?_ | refine wpE_var 4 rfl ?_ | refine wpE_var 5 rfl ?_ | refine wpE_var 6 rfl ?_ | refine wpE_var 7 rfl ?_ | refine wpE_var 8 rfl ?_ | refine wpE_var 9 rfl ?_ | refine wpE_var 10 rfl ?_ | refine wpE_var 11 rfl ?_ | refine wpE_var 12 rfl ?_ | refine wpE_var 13 rfl ?_) | ((with_reducible show wpE _ _ (.Tuple _ _ _) _ _); refine wpE_tup ?_) | ((with_reducible show wpE _ _ (.List _ _) _ _); refine wpE_lst ?_) | ((with_reducible show wpE _ _ (.BinOp _ .Add _ _) _ _); refine wpE_bin op_addD ok_add ?_) | ((with_reducible show wpE _ _ (.BinOp _ .Sub _ _) _ _); refine wpE_bin op_sub ok_sub ?_) | ((with_reducible show wpE _ _ (.Dict [_, _] _ _) _ _); refine wpE_disp2 ?_) | ((with_reducible show wpE _ _ (.Dict [_] _ _) _ _); refine wpE_disp1 ?_) | with_reducible refine r_d2 (by decide +kernel) ?_ | with_reducible refine r_d1 ?_)
    refine ⟨k, by rw [Int.zero_add], ?_⟩
    show wpSs _ _ _ [some (.scr ns), some (.d (.int (0 + (k : Nat)))), some (.own .feed), s3, s4, s5, s6] _
    refine wpSs_cons (wpS_set 3 ?_ scLaw.nd)
    refine wpE_callF 2 GK hr3 gK kK bK rfl (wpA_nil ⟨rfl, rfl, fun d hd => ?_⟩)
    obtain ⟨ks, rfl, hk⟩ := hd
    show wpSs _ _ _ [some (.scr ns), some (.d (.int (0 + (k : Nat)))), some (.own .feed), some (.d (kindsD ks)), s4, s5, s6] _
    refine wpSs_cons (wpS_for (wpI_range m_range (wpA_cons (wpE_int (wpA_nil ⟨_, rfl, ⟨by decide, by decide⟩, ?_⟩)))) PassesOwn.never rfl)
    refine ⟨fun i δ' => ∃ s4 s5 s6, δ' = [some (.scr ns), some (.d (.int (0 + (k : Nat)))), some (.own .feed), some (.d (kindsD ks)), s4, s5, s6], ⟨_, _, _, rfl⟩, ?_, ?_⟩
    · rintro i2 d δ' hd2 ⟨s4, s5, s6, rfl⟩
      refine wpG_name 4 ?_ scLaw.nd
      show wpSs _ _ _ [some (.scr ns), some (.d (.int (0 + (k : Nat)))), some (.own .feed), some (.d (kindsD ks)), some (.d d), s5, s6] _
      refine wpSs_cons (wpS_set 5 (wpE_callF 2 GN hr3 gN kN bN rfl (wpA_cons (wpE_var 3 rfl (wpA_nil ⟨rfl, ⟨ks, rfl, hk⟩, fun y hy => ?_⟩)))) scLaw.nd)
      obtain ⟨ks', l, e1, rfl, hln⟩ := hy
      have e2 := kindsD_inj (List.cons.inj e1).1
      subst e2
      show wpSs _ _ _ [some (.scr ns), some (.d (.int (0 + (k : Nat)))), some (.own .feed), some (.d (kindsD ks)), some (.d d), some (.d (lineD l)), s6] _
      refine wpSs_cons (wpS_set 6 (wpE_call (GX' l hln.ok) hr1 gX kX bX (wpA_cons (wpE_var 5 rfl (wpA_nil ⟨rfl, rfl, fun y hy => ?_⟩)))) scLaw.nd)
      subst hy
      show wpSs _ _ _ [some (.scr ns), some (.d (.int (0 + (k : Nat)))), some (.own .feed), some (.d (kindsD ks)), some (.d d), some (.d (lineD l)), some (.d (.str (lineT l)))] _
      refine wpSs_cons (wpS_if (wpT_W (wpW_or (wpT_cmp (op_neDD hr.units) ok_ne (nomark _) (wpE_call (GM l hln.ok) hr2 gM kM bM (wpA_cons (wpE_var 5 rfl (wpA_nil ⟨rfl, rfl, fun y hy => ?_⟩))))))))
      subst hy
      refine wpE_var 6 rfl (r_eqS ⟨_, rfl, ?_⟩)
      rw [decide_eq_true rfl]
      refine iteF (wpW_or1 (wpT_not (wpT_val (wpE_callG GS qt hr1 gS kS bS (wpA_cons (wpE_call (GQ ks l hln) hr5 gQ kQ bQ ?_))))))
      refine wpA_cons (wpE_var 3 rfl (wpA_cons (wpE_var 6 rfl (wpA_nil ⟨rfl, rfl, fun y hy => ?_⟩))))
      subst hy
      refine wpA_cons (wpE_var 5 rfl (wpA_nil ⟨rfl, ⟨_, rfl, ((sm_line hln.ok).up (by decide)).mono (by decide)⟩, fun y hy => ?_⟩))
      subst hy
      refine ⟨true, rfl, iteF (wpSs_nil ?_)⟩
      refine wpSs_one (wpS_if (wpT_not (wpT_val (wpE_callG GR qt hr gR kR bR (wpA_cons (wpE_var 3 rfl (wpA_cons (wpE_callF 2 GG hr4 gG kG bG rfl ?_))))))))
      refine wpA_cons (wpE_var 3 rfl (wpA_cons (wpE_int (wpA_nil ⟨rfl, ⟨ks, rfl, hk⟩, fun y hy => ?_⟩))))
      obtain ⟨ks', lg, e1, rfl, hlg⟩ := hy
      have e2 := kindsD_inj (List.cons.inj e1).1
      subst e2
      refine wpA_nil ⟨rfl, ⟨ks, lg, rfl, hlg⟩, fun y hy => ?_⟩
      subst hy
      exact ⟨true, rfl, iteF (wpSs_nil ⟨_, _, _, rfl⟩)⟩
    · rintro δ' ⟨s4, s5, s6, rfl⟩
      refine wpSs_one (wpS_if (wpT_W (wpW_and (wpT_cmp (op_eqDD hr.units) ok_eq (nomark _) (wpE_var 1 rfl (wpE_int (r_eqI ⟨_, rfl, ?_⟩)))))))
      cases decide ((0 + (k : Nat) : Int) = 0) with
      | false => exact iteF (iteF (wpSs_nil ⟨_, _, _, _, _, _, rfl⟩))
      | true =>
        refine iteT (wpW_and1 (wpT_cmp (op_eqDD hr.units) ok_eq (nomark _) (wpE_take 2 GT hr1 gT kT bT rfl (wpE_int ⟨_, rfl, by decide, by decide, fun z z0 z1 => ?_⟩))))
        refine wpE_int (r_eqI ⟨_, rfl, ?_⟩)
        cases decide (z = 0) with
        | false => exact iteF (wpSs_nil ⟨_, _, _, _, _, _, rfl⟩)
        | true =>
          refine iteT ?_
          refine wpSs_cons (wpS_set 5 (wpE_callF 2 GN hr3 gN kN bN rfl (wpA_cons (wpE_var 3 rfl (wpA_nil ⟨rfl, ⟨ks, rfl, hk⟩, fun y hy => ?_⟩)))) scLaw.nd)
          obtain ⟨ks', l, e1, rfl, hln⟩ := hy
          have e2 := kindsD_inj (List.cons.inj e1).1
          subst e2
          show wpSs _ _ _ [some (.scr ns), some (.d (.int (0 + (k : Nat)))), some (.own .feed), some (.d (kindsD ks)), s4, some (.d (lineD l)), s6] _
          refine wpSs_one (wpS_if (wpT_not (wpT_val (wpE_callG GR qt hr gR kR bR (wpA_cons (wpE_var 3 rfl (wpA_cons ?_)))))))
          refine wpE_tup (wpA_cons (wpE_bin op_mulD ok_mul (wpE_lst (wpA_cons (wpE_var 5 rfl (wpA_nil ⟨by show 1 ≤ sizeLine; decide, ?_⟩))))))
          refine wpE_int ⟨⟨by decide, by decide, by show 1 * 80 ≤ sizeLine; decide⟩, ?_⟩
          refine wpA_cons (wpE_bin op_mulD ok_mul (wpE_lst (wpA_cons (wpE_var 5 rfl (wpA_nil ⟨by show 1 ≤ sizeLine; decide, ?_⟩)))))
          refine wpE_int ⟨⟨by decide, by decide, by show 1 * 80 ≤ sizeLine; decide⟩, ?_⟩
          refine wpA_cons (wpE_int (wpA_cons (wpE_int (wpA_nil ⟨by show 4 ≤ sizeLine; decide, ?_⟩))))
          refine wpA_nil ⟨rfl, ⟨ks, _, ?_, line_log hln⟩, fun y hy => ?_⟩
          · show [kindsD ks, PyData.tuple [.list (List.replicate 80 [lineD l]).flatten, .list (List.replicate 80 [lineD l]).flatten, .int 0, .int 0]] = _
            rw [rep_lines]
            rfl
          subst hy
          exact ⟨true, rfl, iteF (wpSs_nil ⟨_, _, _, _, _, _, rfl⟩)⟩
  · rintro δ' ⟨s1, s2, s3, s4, s5, s6, rfl⟩
    exact wpSs_one (wpS_ret (wpE_bool rfl))
end
end K80

set_option Elab.async false
set_option linter.all false
set_option maxRecDepth 100000
set_option maxHeartbeats 1000000
namespace K80
open PySem PySem.Spec L2 DL
theorem all_mk {l : PySem.W.OpenLaw} {w : World} {K : PySem.W.Frag} {h : Heap} {mg : Str → Option Value} {q : Program} {fa : Addr} (X : K.In h) (G : h.Ns mainGlobals mg) (hfa : mg "law" = some (.ref fa)) (TF : TabFacts K h q)
    {f1 c1 f2 c2 f3 c3 f4 c4 f5 c5 f6 c6 f7 c7 f8 c8 f9 c9 f10 c10 f11 c11 f12 c12 f13 c13 f14 c14 f15 c15 f16 c16 f17 c17 f18 c18 f19 c19 f20 c20 f21 c21 f22 c22 f23 c23 f24 c24 f25 c25 f26 c26 : Addr} {od1 an1 od2 an2 od3 an3 od4 an4 od5 an5 od6 an6 od7 an7 od8 an8 od9 an9 od10 an10 od11 an11 od12 an12 od13 an13 od14 an14 od15 an15 od16 an16 od17 an17 od18 an18 od19 an19 od20 an20 od21 an21 od22 an22 od23 an23 od24 an24 od25 an25 od26 an26 : Option Addr} {sl1 sl2 sl3 sl4 sl5 sl6 sl7 sl8 sl9 sl10 sl11 sl12 sl13 sl14 sl15 sl16 sl17 sl18 sl19 sl20 sl21 sl22 sl23 sl24 sl25 sl26 : Array (Option Value)} {oc1 kV1 dc1 pm1 ct1 oc2 kV2 dc2 pm2 ct2 oc3 kV3 dc3 pm3 ct3 oc4 kV4 dc4 pm4 ct4 oc5 kV5 dc5 pm5 ct5 oc6 kV6 dc6 pm6 ct6 oc7 kV7 dc7 pm7 ct7 oc8 kV8 dc8 pm8 ct8 oc9 kV9 dc9 pm9 ct9 oc10 kV10 dc10 pm10 ct10 oc11 kV11 dc11 pm11 ct11 oc12 kV12 dc12 pm12 ct12 oc13 kV13 dc13 pm13 ct13 oc14 kV14 dc14 pm14 ct14 oc15 kV15 dc15 pm15 ct15 oc16 kV16 dc16 pm16 ct16 oc17 kV17 dc17 pm17 ct17 oc18 kV18 dc18 pm18 ct18 oc19 kV19 dc19 pm19 ct19 oc20 kV20 dc20 pm20 ct20 oc21 kV21 dc21 pm21 ct21 oc22 kV22 dc22 pm22 ct22 oc23 kV23 dc23 pm23 ct23 oc24 kV24 dc24 pm24 ct24 oc25 kV25 dc25 pm25 ct25 oc26 kV26 dc26 pm26 ct26 : Value}
    {P3 P12 P15 : Addr} {ec3 ec12 ec15 : Value} {dd3 dd12 dd15 : Option Addr} {vs3 vs12 vs15 : Array Value} {sv3 sv12 sv15 : Array (Option Value)}
    {tk_LATEST tk_PLATE_SIGNS tk_DIGITS tk_MOST_DIGITS : Tok}
    (a1 : PySem.W.nsIn K mainGlobals "is_integer" = some (some (.ref f1))) (l1 : K.lookup f1 = some ⟨oc1, od1, .func (PySem.W.fnOf "is_integer" "is_integer" (defArgs sIsInt) (defBody sIsInt) (defScope sIsInt) .none kV1 dc1 pm1 an1 (.ref c1) ct1), sl1⟩) (c1' : PySem.W.codeIn K (.ref c1) "is_integer" = true) (k1 : PySem.W.keepIn K (.ref f1) = true)
    (a2 : PySem.W.nsIn K mainGlobals "is_tuple" = some (some (.ref f2))) (l2 : K.lookup f2 = some ⟨oc2, od2, .func (PySem.W.fnOf "is_tuple" "is_tuple" (defArgs sIsTup) (defBody sIsTup) (defScope sIsTup) .none kV2 dc2 pm2 an2 (.ref c2) ct2), sl2⟩) (c2' : PySem.W.codeIn K (.ref c2) "is_tuple" = true) (k2 : PySem.W.keepIn K (.ref f2) = true)
    (a3 : PySem.W.nsIn K mainGlobals "is_word" = some (some (.ref f3))) (l3 : K.lookup f3 = some ⟨oc3, od3, .func (PySem.W.fnOf "is_word" "is_word" (defArgs sIsWord) (defBody sIsWord) (defScope sIsWord) .none kV3 dc3 pm3 an3 (.ref c3) ct3), sl3⟩) (c3' : PySem.W.codeIn K (.ref c3) "is_word" = true) (k3 : PySem.W.keepIn K (.ref f3) = true)
    (a4 : PySem.W.nsIn K mainGlobals "is_line" = some (some (.ref f4))) (l4 : K.lookup f4 = some ⟨oc4, od4, .func (PySem.W.fnOf "is_line" "is_line" (defArgs sIsLine) (defBody sIsLine) (defScope sIsLine) .none kV4 dc4 pm4 an4 (.ref c4) ct4), sl4⟩) (c4' : PySem.W.codeIn K (.ref c4) "is_line" = true) (k4 : PySem.W.keepIn K (.ref f4) = true)
    (a5 : PySem.W.nsIn K mainGlobals "is_line_kind" = some (some (.ref f5))) (l5 : K.lookup f5 = some ⟨oc5, od5, .func (PySem.W.fnOf "is_line_kind" "is_line_kind" (defArgs sIsKind) (defBody sIsKind) (defScope sIsKind) .none kV5 dc5 pm5 an5 (.ref c5) ct5), sl5⟩) (c5' : PySem.W.codeIn K (.ref c5) "is_line_kind" = true) (k5 : PySem.W.keepIn K (.ref f5) = true)
    (a6 : PySem.W.nsIn K mainGlobals "is_floor" = some (some (.ref f6))) (l6 : K.lookup f6 = some ⟨oc6, od6, .func (PySem.W.fnOf "is_floor" "is_floor" (defArgs sIsFloor) (defBody sIsFloor) (defScope sIsFloor) .none kV6 dc6 pm6 an6 (.ref c6) ct6), sl6⟩) (c6' : PySem.W.codeIn K (.ref c6) "is_floor" = true) (k6 : PySem.W.keepIn K (.ref f6) = true)
    (a7 : PySem.W.nsIn K mainGlobals "format_line" = some (some (.ref f7))) (l7 : K.lookup f7 = some ⟨oc7, od7, .func (PySem.W.fnOf "format_line" "format_line" (defArgs sFmtLine) (defBody sFmtLine) (defScope sFmtLine) .none kV7 dc7 pm7 an7 (.ref c7) ct7), sl7⟩) (c7' : PySem.W.codeIn K (.ref c7) "format_line" = true) (k7 : PySem.W.keepIn K (.ref f7) = true)
    (a8 : PySem.W.nsIn K mainGlobals "format_word" = some (some (.ref f8))) (l8 : K.lookup f8 = some ⟨oc8, od8, .func (PySem.W.fnOf "format_word" "format_word" (defArgs sFmtWord) (defBody sFmtWord) (defScope sFmtWord) .none kV8 dc8 pm8 an8 (.ref c8) ct8), sl8⟩) (c8' : PySem.W.codeIn K (.ref c8) "format_word" = true) (k8 : PySem.W.keepIn K (.ref f8) = true)
    (a9 : PySem.W.nsIn K mainGlobals "format_log" = some (some (.ref f9))) (l9 : K.lookup f9 = some ⟨oc9, od9, .func (PySem.W.fnOf "format_log" "format_log" (defArgs sFmtLog) (defBody sFmtLog) (defScope sFmtLog) .none kV9 dc9 pm9 an9 (.ref c9) ct9), sl9⟩) (c9' : PySem.W.codeIn K (.ref c9) "format_log" = true) (k9 : PySem.W.keepIn K (.ref f9) = true)
    (a10 : PySem.W.nsIn K mainGlobals "parse_line" = some (some (.ref f10))) (l10 : K.lookup f10 = some ⟨oc10, od10, .func (PySem.W.fnOf "parse_line" "parse_line" (defArgs sParseLine) (defBody sParseLine) (defScope sParseLine) .none kV10 dc10 pm10 an10 (.ref c10) ct10), sl10⟩) (c10' : PySem.W.codeIn K (.ref c10) "parse_line" = true) (k10 : PySem.W.keepIn K (.ref f10) = true)
    (a11 : PySem.W.nsIn K mainGlobals "line_of" = some (some (.ref f11))) (l11 : K.lookup f11 = some ⟨oc11, od11, .func (PySem.W.fnOf "line_of" "line_of" (defArgs sLineOf) (defBody sLineOf) (defScope sLineOf) .none kV11 dc11 pm11 an11 (.ref c11) ct11), sl11⟩) (c11' : PySem.W.codeIn K (.ref c11) "line_of" = true) (k11 : PySem.W.keepIn K (.ref f11) = true)
    (a12 : PySem.W.nsIn K mainGlobals "number_of" = some (some (.ref f12))) (l12 : K.lookup f12 = some ⟨oc12, od12, .func (PySem.W.fnOf "number_of" "number_of" (defArgs sNumOf) (defBody sNumOf) (defScope sNumOf) .none kV12 dc12 pm12 an12 (.ref c12) ct12), sl12⟩) (c12' : PySem.W.codeIn K (.ref c12) "number_of" = true) (k12 : PySem.W.keepIn K (.ref f12) = true)
    (a13 : PySem.W.nsIn K mainGlobals "word_of" = some (some (.ref f13))) (l13 : K.lookup f13 = some ⟨oc13, od13, .func (PySem.W.fnOf "word_of" "word_of" (defArgs sWordOf) (defBody sWordOf) (defScope sWordOf) .none kV13 dc13 pm13 an13 (.ref c13) ct13), sl13⟩) (c13' : PySem.W.codeIn K (.ref c13) "word_of" = true) (k13 : PySem.W.keepIn K (.ref f13) = true)
    (a14 : PySem.W.nsIn K mainGlobals "parse_log" = some (some (.ref f14))) (l14 : K.lookup f14 = some ⟨oc14, od14, .func (PySem.W.fnOf "parse_log" "parse_log" (defArgs sParseLog) (defBody sParseLog) (defScope sParseLog) .none kV14 dc14 pm14 an14 (.ref c14) ct14), sl14⟩) (c14' : PySem.W.codeIn K (.ref c14) "parse_log" = true) (k14 : PySem.W.keepIn K (.ref f14) = true)
    (a15 : PySem.W.nsIn K mainGlobals "floors_of" = some (some (.ref f15))) (l15 : K.lookup f15 = some ⟨oc15, od15, .func (PySem.W.fnOf "floors_of" "floors_of" (defArgs sFloorsOf) (defBody sFloorsOf) (defScope sFloorsOf) .none kV15 dc15 pm15 an15 (.ref c15) ct15), sl15⟩) (c15' : PySem.W.codeIn K (.ref c15) "floors_of" = true) (k15 : PySem.W.keepIn K (.ref f15) = true)
    (a16 : PySem.W.nsIn K mainGlobals "_law_feed" = some (some (.ref f16))) (l16 : K.lookup f16 = some ⟨oc16, od16, .func (PySem.W.fnOf "_law_feed" "_law_feed" (defArgs sFeed) (defBody sFeed) (defScope sFeed) .none kV16 dc16 pm16 an16 (.ref c16) ct16), sl16⟩) (c16' : PySem.W.codeIn K (.ref c16) "_law_feed" = true) (k16 : PySem.W.keepIn K (.ref f16) = true)
    (a17 : PySem.W.nsIn K mainGlobals "_law_take" = some (some (.ref f17))) (l17 : K.lookup f17 = some ⟨oc17, od17, .func (PySem.W.fnOf "_law_take" "_law_take" (defArgs sTake) (defBody sTake) (defScope sTake) .none kV17 dc17 pm17 an17 (.ref c17) ct17), sl17⟩) (c17' : PySem.W.codeIn K (.ref c17) "_law_take" = true) (k17 : PySem.W.keepIn K (.ref f17) = true)
    (a18 : PySem.W.nsIn K mainGlobals "_law_pick" = some (some (.ref f18))) (l18 : K.lookup f18 = some ⟨oc18, od18, .func (PySem.W.fnOf "_law_pick" "_law_pick" (defArgs sPick) (defBody sPick) (defScope sPick) .none kV18 dc18 pm18 an18 (.ref c18) ct18), sl18⟩) (c18' : PySem.W.codeIn K (.ref c18) "_law_pick" = true) (k18 : PySem.W.keepIn K (.ref f18) = true)
    (a19 : PySem.W.nsIn K mainGlobals "_law_any_line" = some (some (.ref f19))) (l19 : K.lookup f19 = some ⟨oc19, od19, .func (PySem.W.fnOf "_law_any_line" "_law_any_line" (defArgs sAnyLine) (defBody sAnyLine) (defScope sAnyLine) .none kV19 dc19 pm19 an19 (.ref c19) ct19), sl19⟩) (c19' : PySem.W.codeIn K (.ref c19) "_law_any_line" = true) (k19 : PySem.W.keepIn K (.ref f19) = true)
    (a20 : PySem.W.nsIn K mainGlobals "_law_any_kinds" = some (some (.ref f20))) (l20 : K.lookup f20 = some ⟨oc20, od20, .func (PySem.W.fnOf "_law_any_kinds" "_law_any_kinds" (defArgs sAnyKinds) (defBody sAnyKinds) (defScope sAnyKinds) .none kV20 dc20 pm20 an20 (.ref c20) ct20), sl20⟩) (c20' : PySem.W.codeIn K (.ref c20) "_law_any_kinds" = true) (k20 : PySem.W.keepIn K (.ref f20) = true)
    (a21 : PySem.W.nsIn K mainGlobals "_law_any_log" = some (some (.ref f21))) (l21 : K.lookup f21 = some ⟨oc21, od21, .func (PySem.W.fnOf "_law_any_log" "_law_any_log" (defArgs sAnyLog) (defBody sAnyLog) (defScope sAnyLog) .none kV21 dc21 pm21 an21 (.ref c21) ct21), sl21⟩) (c21' : PySem.W.codeIn K (.ref c21) "_law_any_log" = true) (k21 : PySem.W.keepIn K (.ref f21) = true)
    (a22 : PySem.W.nsIn K mainGlobals "_law_line_text" = some (some (.ref f22))) (l22 : K.lookup f22 = some ⟨oc22, od22, .func (PySem.W.fnOf "_law_line_text" "_law_line_text" (defArgs sLineText) (defBody sLineText) (defScope sLineText) .none kV22 dc22 pm22 an22 (.ref c22) ct22), sl22⟩) (c22' : PySem.W.codeIn K (.ref c22) "_law_line_text" = true) (k22 : PySem.W.keepIn K (.ref f22) = true)
    (a23 : PySem.W.nsIn K mainGlobals "_law_log_text" = some (some (.ref f23))) (l23 : K.lookup f23 = some ⟨oc23, od23, .func (PySem.W.fnOf "_law_log_text" "_law_log_text" (defArgs sLogText) (defBody sLogText) (defScope sLogText) .none kV23 dc23 pm23 an23 (.ref c23) ct23), sl23⟩) (c23' : PySem.W.codeIn K (.ref c23) "_law_log_text" = true) (k23 : PySem.W.keepIn K (.ref f23) = true)
    (a24 : PySem.W.nsIn K mainGlobals "_law_is_same" = some (some (.ref f24))) (l24 : K.lookup f24 = some ⟨oc24, od24, .func (PySem.W.fnOf "_law_is_same" "_law_is_same" (defArgs sSame) (defBody sSame) (defScope sSame) .none kV24 dc24 pm24 an24 (.ref c24) ct24), sl24⟩) (c24' : PySem.W.codeIn K (.ref c24) "_law_is_same" = true) (k24 : PySem.W.keepIn K (.ref f24) = true)
    (a25 : PySem.W.nsIn K mainGlobals "_law_log_is_right" = some (some (.ref f25))) (l25 : K.lookup f25 = some ⟨oc25, od25, .func (PySem.W.fnOf "_law_log_is_right" "_law_log_is_right" (defArgs sLogRight) (defBody sLogRight) (defScope sLogRight) .none kV25 dc25 pm25 an25 (.ref c25) ct25), sl25⟩) (c25' : PySem.W.codeIn K (.ref c25) "_law_log_is_right" = true) (k25 : PySem.W.keepIn K (.ref f25) = true)
    (a26 : PySem.W.nsIn K mainGlobals "law" = some (some (.ref f26))) (l26 : K.lookup f26 = some ⟨oc26, od26, .func (PySem.W.fnOf "law" "law" (defArgs sLaw) (defBody sLaw) (defScope sLaw) .none kV26 dc26 pm26 an26 (.ref c26) ct26), sl26⟩) (c26' : PySem.W.codeIn K (.ref c26) "law" = true) (k26 : PySem.W.keepIn K (.ref f26) = true)
    (lc3 : K.lookup c3 = some ⟨ec3, dd3, .fields vs3, sv3⟩) (v3 : vs3[11]? = some (.ref P3)) (n3 : K.lookup P3 = none) (q3 : ((PyProof.Rows.recsOf q).any fun r => r.name == ("is_word" : Str)) = true)
    (lc12 : K.lookup c12 = some ⟨ec12, dd12, .fields vs12, sv12⟩) (v12 : vs12[11]? = some (.ref P12)) (n12 : K.lookup P12 = none) (q12 : ((PyProof.Rows.recsOf q).any fun r => r.name == ("number_of" : Str)) = true)
    (lc15 : K.lookup c15 = some ⟨ec15, dd15, .fields vs15, sv15⟩) (v15 : vs15[11]? = some (.ref P15)) (n15 : K.lookup P15 = none) (q15 : ((PyProof.Rows.recsOf q).any fun r => r.name == ("floors_of" : Str)) = true)
    (z_all : PySem.W.nsIn K mainGlobals "all" = some none) (z_max : PySem.W.nsIn K mainGlobals "max" = some none) (z_min : PySem.W.nsIn K mainGlobals "min" = some none) (z_len : PySem.W.nsIn K mainGlobals "len" = some none) (z_list : PySem.W.nsIn K mainGlobals "list" = some none) (z_abs : PySem.W.nsIn K mainGlobals "abs" = some none) (z_range : PySem.W.nsIn K mainGlobals "range" = some none) (z_repr : PySem.W.nsIn K mainGlobals "repr" = some none) (z_isinstance : PySem.W.nsIn K mainGlobals "isinstance" = some none) (z_bool : PySem.W.nsIn K mainGlobals "bool" = some none) (z_int : PySem.W.nsIn K mainGlobals "int" = some none) (z_str : PySem.W.nsIn K mainGlobals "str" = some none) (z_tuple : PySem.W.nsIn K mainGlobals "tuple" = some none) (z_sorted : PySem.W.nsIn K mainGlobals "sorted" = some none) (e_LATEST : PySem.W.nsIn K mainGlobals "LATEST" = some (some (.int 1000000000 tk_LATEST)))  (e_PLATE_SIGNS : PySem.W.nsIn K mainGlobals "PLATE_SIGNS" = some (some (.str "ABCDEFGHIJKLMNOPQRSTUVWXYZ0123456789" tk_PLATE_SIGNS)))  (e_DIGITS : PySem.W.nsIn K mainGlobals "DIGITS" = some (some (.str "0123456789" tk_DIGITS)))  (e_MOST_DIGITS : PySem.W.nsIn K mainGlobals "MOST_DIGITS" = some (some (.int 10 tk_MOST_DIGITS))) :
    LawG l w K 6 63 mg fa h := by
  have e := hfa.symm.trans (PySem.W.mg_of X G a26)
  cases e
  have F1 := (left_mk (st := sIsInt) a1 l1 c1' k1).F
  have g1 := PySem.W.mg_of X G a1
  have b1 := F1.fun.binds (ps := ["value", "low", "high"]) fun _ _ _ _ _ _ us hl => match us, hl with | [_, _, _], _ => rfl
  have F2 := (left_mk (st := sIsTup) a2 l2 c2' k2).F
  have g2 := PySem.W.mg_of X G a2
  have b2 := F2.fun.binds (ps := ["value", "size"]) fun _ _ _ _ _ _ us hl => match us, hl with | [_, _], _ => rfl
  have F3 := (left_mk (st := sIsWord) a3 l3 c3' k3).F
  have g3 := PySem.W.mg_of X G a3
  have b3 := F3.fun.binds (ps := ["value", "signs"]) fun _ _ _ _ _ _ us hl => match us, hl with | [_, _], _ => rfl
  have F4 := (left_mk (st := sIsLine) a4 l4 c4' k4).F
  have g4 := PySem.W.mg_of X G a4
  have b4 := F4.fun.binds (ps := ["kinds", "value"]) fun _ _ _ _ _ _ us hl => match us, hl with | [_, _], _ => rfl
  have F5 := (left_mk (st := sIsKind) a5 l5 c5' k5).F
  have g5 := PySem.W.mg_of X G a5
  have b5 := F5.fun.binds (ps := ["kinds", "value"]) fun _ _ _ _ _ _ us hl => match us, hl with | [_, _], _ => rfl
  have F6 := (left_mk (st := sIsFloor) a6 l6 c6' k6).F
  have g6 := PySem.W.mg_of X G a6
  have b6 := F6.fun.binds (ps := ["value"]) fun _ _ _ _ _ _ us hl => match us, hl with | [_], _ => rfl
  have F7 := (left_mk (st := sFmtLine) a7 l7 c7' k7).F
  have g7 := PySem.W.mg_of X G a7
  have b7 := F7.fun.binds (ps := ["line"]) fun _ _ _ _ _ _ us hl => match us, hl with | [_], _ => rfl
  have F8 := (left_mk (st := sFmtWord) a8 l8 c8' k8).F
  have g8 := PySem.W.mg_of X G a8
  have b8 := F8.fun.binds (ps := ["word"]) fun _ _ _ _ _ _ us hl => match us, hl with | [_], _ => rfl
  have F9 := (left_mk (st := sFmtLog) a9 l9 c9' k9).F
  have g9 := PySem.W.mg_of X G a9
  have b9 := F9.fun.binds (ps := ["log"]) fun _ _ _ _ _ _ us hl => match us, hl with | [_], _ => rfl
  have F10 := (left_mk (st := sParseLine) a10 l10 c10' k10).F
  have g10 := PySem.W.mg_of X G a10
  have b10 := F10.fun.binds (ps := ["kinds", "text"]) fun _ _ _ _ _ _ us hl => match us, hl with | [_, _], _ => rfl
  have F11 := (left_mk (st := sLineOf) a11 l11 c11' k11).F
  have g11 := PySem.W.mg_of X G a11
  have b11 := F11.fun.binds (ps := ["kinds", "text"]) fun _ _ _ _ _ _ us hl => match us, hl with | [_, _], _ => rfl
  have F12 := (left_mk (st := sNumOf) a12 l12 c12' k12).F
  have g12 := PySem.W.mg_of X G a12
  have b12 := F12.fun.binds (ps := ["word"]) fun _ _ _ _ _ _ us hl => match us, hl with | [_], _ => rfl
  have F13 := (left_mk (st := sWordOf) a13 l13 c13' k13).F
  have g13 := PySem.W.mg_of X G a13
  have b13 := F13.fun.binds (ps := ["word"]) fun _ _ _ _ _ _ us hl => match us, hl with | [_], _ => rfl
  have F14 := (left_mk (st := sParseLog) a14 l14 c14' k14).F
  have g14 := PySem.W.mg_of X G a14
  have b14 := F14.fun.binds (ps := ["kinds", "text"]) fun _ _ _ _ _ _ us hl => match us, hl with | [_, _], _ => rfl
  have F15 := (left_mk (st := sFloorsOf) a15 l15 c15' k15).F
  have g15 := PySem.W.mg_of X G a15
  have b15 := F15.fun.binds (ps := ["row"]) fun _ _ _ _ _ _ us hl => match us, hl with | [_], _ => rfl
  have F16 := (left_mk (st := sFeed) a16 l16 c16' k16).F
  have g16 := PySem.W.mg_of X G a16
  have b16 := F16.fun.binds (ps := ["script", "k"]) fun _ _ _ _ _ _ us hl => match us, hl with | [_, _], _ => rfl
  have F17 := (left_mk (st := sTake) a17 l17 c17' k17).F
  have g17 := PySem.W.mg_of X G a17
  have b17 := F17.fun.binds (ps := ["feed", "size"]) fun _ _ _ _ _ _ us hl => match us, hl with | [_, _], _ => rfl
  have F18 := (left_mk (st := sPick) a18 l18 c18' k18).F
  have g18 := PySem.W.mg_of X G a18
  have b18 := F18.fun.binds (ps := ["feed", "choices"]) fun _ _ _ _ _ _ us hl => match us, hl with | [_, _], _ => rfl
  have F19 := (left_mk (st := sAnyLine) a19 l19 c19' k19).F
  have g19 := PySem.W.mg_of X G a19
  have b19 := F19.fun.binds (ps := ["feed", "kinds"]) fun _ _ _ _ _ _ us hl => match us, hl with | [_, _], _ => rfl
  have F20 := (left_mk (st := sAnyKinds) a20 l20 c20' k20).F
  have g20 := PySem.W.mg_of X G a20
  have b20 := F20.fun.binds (ps := ["feed"]) fun _ _ _ _ _ _ us hl => match us, hl with | [_], _ => rfl
  have F21 := (left_mk (st := sAnyLog) a21 l21 c21' k21).F
  have g21 := PySem.W.mg_of X G a21
  have b21 := F21.fun.binds (ps := ["feed", "kinds", "most"]) fun _ _ _ _ _ _ us hl => match us, hl with | [_, _, _], _ => rfl
  have F22 := (left_mk (st := sLineText) a22 l22 c22' k22).F
  have g22 := PySem.W.mg_of X G a22
  have b22 := F22.fun.binds (ps := ["line"]) fun _ _ _ _ _ _ us hl => match us, hl with | [_], _ => rfl
  have F23 := (left_mk (st := sLogText) a23 l23 c23' k23).F
  have g23 := PySem.W.mg_of X G a23
  have b23 := F23.fun.binds (ps := ["log"]) fun _ _ _ _ _ _ us hl => match us, hl with | [_], _ => rfl
  have F24 := (left_mk (st := sSame) a24 l24 c24' k24).F
  have g24 := PySem.W.mg_of X G a24
  have b24 := F24.fun.binds (ps := ["one", "other"]) fun _ _ _ _ _ _ us hl => match us, hl with | [_, _], _ => rfl
  have F25 := (left_mk (st := sLogRight) a25 l25 c25' k25).F
  have g25 := PySem.W.mg_of X G a25
  have b25 := F25.fun.binds (ps := ["kinds", "log"]) fun _ _ _ _ _ _ us hl => match us, hl with | [_, _], _ => rfl
  have F26 := (left_mk (st := sLaw) a26 l26 c26' k26).F
  have g26 := PySem.W.mg_of X G a26
  have m_all := PySem.W.mg_none_of X G z_all
  have m_max := PySem.W.mg_none_of X G z_max
  have m_min := PySem.W.mg_none_of X G z_min
  have m_len := PySem.W.mg_none_of X G z_len
  have m_list := PySem.W.mg_none_of X G z_list
  have m_abs := PySem.W.mg_none_of X G z_abs
  have m_range := PySem.W.mg_none_of X G z_range
  have m_repr := PySem.W.mg_none_of X G z_repr
  have m_isinstance := PySem.W.mg_none_of X G z_isinstance
  have m_bool := PySem.W.mg_none_of X G z_bool
  have m_int := PySem.W.mg_none_of X G z_int
  have m_str := PySem.W.mg_none_of X G z_str
  have m_tuple := PySem.W.mg_none_of X G z_tuple
  have m_sorted := PySem.W.mg_none_of X G z_sorted
  have m_LATEST := PySem.W.mg_of X G e_LATEST
  have m_PLATE_SIGNS := PySem.W.mg_of X G e_PLATE_SIGNS
  have m_DIGITS := PySem.W.mg_of X G e_DIGITS
  have m_MOST_DIGITS := PySem.W.mg_of X G e_MOST_DIGITS
  have t3 := TF _ _ _ _ _ _ _ _ _ _ q3 a3 l3 rfl rfl lc3 v3
  have t12 := TF _ _ _ _ _ _ _ _ _ _ q12 a12 l12 rfl rfl lc12 v12
  have t15 := TF _ _ _ _ _ _ _ _ _ _ q15 a15 l15 rfl rfl lc15 v15
  refine ⟨PySem.W.fnOf "law" "law" (defArgs sLaw) (defBody sLaw) (defScope sLaw) .none kV26 dc26 pm26 an26 (.ref c26) ct26, [(c3, P3), (c12, P12), (c15, P15)], "law", sLaw, c26, nLaw, ?_, ?_, ?_, fun s v => .of_eq rfl, F26, scLaw, fun base s H E ns hns _ _ hB hr h0 h1 => ?_⟩
  · exact fun p hp => by
      simp only [List.mem_cons, List.not_mem_nil, or_false] at hp
      rcases hp with e | e | e
      · rw [e]; exact t3.2
      · rw [e]; exact t12.2
      · rw [e]; exact t15.2
  · exact fun p hp => by
      simp only [List.mem_cons, List.not_mem_nil, or_false] at hp
      rcases hp with e | e | e
      · rw [e]; exact n3
      · rw [e]; exact n12
      · rw [e]; exact n15
  · exact fun p hp => by
      simp only [List.mem_cons, List.not_mem_nil, or_false] at hp
      rcases hp with e | e | e
      · rw [e]; exact t3.1
      · rw [e]; exact t12.1
      · rw [e]; exact t15.1
  · have GII := fun d lo hi => ok_isInt (P := l.prog) (w := w) (mg := mg) (base := base) (Tb := [P3, P12, P15]) F1 m_isinstance m_int m_bool d lo hi
    have GIT := fun d n => ok_isTup (P := l.prog) (w := w) (mg := mg) (base := base) (Tb := [P3, P12, P15]) F2 m_isinstance m_tuple m_len d n
    have GIW := fun d sg h => ok_isWord (P := l.prog) (w := w) (mg := mg) (base := base) (Tb := [P3, P12, P15]) F3 (hB (c3, P3) (by simp)) (show P3 ∈ _ by simp) m_isinstance m_str m_len m_all d sg h
    have GIK := fun ks d => ok_isKind (P := l.prog) (w := w) (mg := mg) (base := base) (Tb := [P3, P12, P15]) F5 m_isinstance m_str ks d
    have GIL := fun ks d h => ok_isLine (P := l.prog) (w := w) (mg := mg) (base := base) (Tb := [P3, P12, P15]) F4 m_LATEST m_PLATE_SIGNS GII g1 k1 b1 GIT g2 k2 b2 GIW g3 k3 b3 GIK g5 k5 b5 ks d h
    have GIF := fun d => ok_isFloor (P := l.prog) (w := w) (mg := mg) (base := base) (Tb := [P3, P12, P15]) F6 m_LATEST GII g1 k1 b1 d
    have GFW := fun o => ok_fmtWord (P := l.prog) (w := w) (mg := mg) (base := base) (Tb := [P3, P12, P15]) F8 o
    have GFL := fun ll h => ok_fmtLine (P := l.prog) (w := w) (mg := mg) (base := base) (Tb := [P3, P12, P15]) F7 GFW g8 k8 b8 ll h
    have GFG := fun lg h => ok_fmtLog (P := l.prog) (w := w) (mg := mg) (base := base) (Tb := [P3, P12, P15]) F9 GFL g7 k7 b7 lg h
    have GWO := fun o h => ok_wordOf (P := l.prog) (w := w) (mg := mg) (base := base) (Tb := [P3, P12, P15]) F13 o h
    have GNO := fun t a b => ok_numOf (P := l.prog) (w := w) (mg := mg) (base := base) (Tb := [P3, P12, P15]) F12 (hB (c12, P12) (by simp)) (show P12 ∈ _ by simp) m_LATEST m_DIGITS m_MOST_DIGITS m_len m_all m_int t a b
    have GLO := fun ks ll h => ok_lineOf (P := l.prog) (w := w) (mg := mg) (base := base) (Tb := [P3, P12, P15]) F11 m_len GNO g12 k12 b12 GWO g13 k13 b13 GIL g4 k4 b4 ks ll h
    have GPL := fun ks ll h => ok_parseLine (P := l.prog) (w := w) (mg := mg) (base := base) (Tb := [P3, P12, P15]) F10 GLO g11 k11 b11 ks ll h
    have GFO := fun lg he hx => ok_floorsOf (P := l.prog) (w := w) (mg := mg) (base := base) (Tb := [P3, P12, P15]) F15 (hB (c15, P15) (by simp)) (show P15 ∈ _ by simp) m_len m_all GNO g12 k12 b12 GIF g6 k6 b6 lg he hx
    have GPG := fun ks lg h => ok_parseLog (P := l.prog) (w := w) (mg := mg) (base := base) (Tb := [P3, P12, P15]) F14 m_len m_range GLO g11 k11 b11 GFO g15 k15 b15 ks lg h
    have GFE := ok_feed (P := l.prog) (w := w) (mg := mg) (base := base) F16 m_list m_max m_abs
    have GTA := ok_take (P := l.prog) (w := w) (mg := mg) (base := base) (Tb := [P3, P12, P15]) F17
    have GPI := ok_pick (P := l.prog) (w := w) (mg := mg) (base := base) (Tb := [P3, P12, P15]) F18 m_len GTA g17 k17 b17
    have GPS := ok_pickS (P := l.prog) (w := w) (mg := mg) (base := base) (Tb := [P3, P12, P15]) F18 m_len GTA g17 k17 b17
    have GAK := ok_anyKinds (P := l.prog) (w := w) (mg := mg) (base := base) (Tb := [P3, P12, P15]) F20 m_range GTA g17 k17 b17 GPI g18 k18 b18
    have GAL := ok_anyLine (P := l.prog) (w := w) (mg := mg) (base := base) (Tb := [P3, P12, P15]) F19 m_range m_sorted GTA g17 k17 b17 GPI GPS g18 k18 b18
    have GAG := ok_anyLog (P := l.prog) (w := w) (mg := mg) (base := base) (Tb := [P3, P12, P15]) F21 m_range GTA g17 k17 b17 GPI g18 k18 b18 GAL g19 k19 b19
    have GLT := fun ll h => ok_lineText (P := l.prog) (w := w) (mg := mg) (base := base) (Tb := [P3, P12, P15]) F22 m_str ll h
    have GGT := fun lg h => ok_logText (P := l.prog) (w := w) (mg := mg) (base := base) (Tb := [P3, P12, P15]) F23 m_str GLT g22 k22 b22 lg h
    have GSM := ok_same (P := l.prog) (w := w) (mg := mg) (base := base) (Tb := [P3, P12, P15]) F24 m_repr
    have GLR := ok_logRight (P := l.prog) (w := w) (mg := mg) (base := base) (Tb := [P3, P12, P15]) F25 m_repr GGT g23 k23 b23 GFG g9 k9 b9 GPG g14 k14 b14 GSM g24 k24 b24
    exact law_body (P := l.prog) (w := w) (mg := mg) (base := base) (Tb := [P3, P12, P15]) hns hr h0 h1 m_range m_max m_min m_len GTA g17 k17 b17 GFE g16 k16 b16 GAK g20 k20 b20 GAL g19 k19 b19 GAG g21 k21 b21 GLT g22 k22 b22 GFL g7 k7 b7 GPL g10 k10 b10 GSM g24 k24 b24 GLR g25 k25 b25
end K80

set_option Elab.async false
set_option linter.all false
open PySem PySem.W PyProof.Rows in
set_option maxRecDepth 100000 in
set_option maxHeartbeats 0 in
theorem PySem.Challenge.cw_gatepairs_k80_lines_and_logs_as_text_holds : PySem.Challenge.rw_gatepairs_k80_lines_and_logs_as_text.Holds := by
  w_on; o_law; k_head; (case hw => w_witness2)
  k_fill
  refine DL.walk_G (l := PySem.Challenge.rw_gatepairs_k80_lines_and_logs_as_text) (n := 63) (k := 6) rfl (by decide) rfl ⟨rfl, by decide, by decide⟩ (by kernel_rfl) (fun w h Y => PySem.W.kIn_of Y) ?F
  case F =>
    intro w mg fa h KX G hmg TF
    refine' K80.all_mk KX G hmg TF ?a1 ?l1 ?c1' ?k1 ?a2 ?l2 ?c2' ?k2 ?a3 ?l3 ?c3' ?k3 ?a4 ?l4 ?c4' ?k4 ?a5 ?l5 ?c5' ?k5 ?a6 ?l6 ?c6' ?k6 ?a7 ?l7 ?c7' ?k7 ?a8 ?l8 ?c8' ?k8 ?a9 ?l9 ?c9' ?k9 ?a10 ?l10 ?c10' ?k10 ?a11 ?l11 ?c11' ?k11 ?a12 ?l12 ?c12' ?k12 ?a13 ?l13 ?c13' ?k13 ?a14 ?l14 ?c14' ?k14 ?a15 ?l15 ?c15' ?k15 ?a16 ?l16 ?c16' ?k16 ?a17 ?l17 ?c17' ?k17 ?a18 ?l18 ?c18' ?k18 ?a19 ?l19 ?c19' ?k19 ?a20 ?l20 ?c20' ?k20 ?a21 ?l21 ?c21' ?k21 ?a22 ?l22 ?c22' ?k22 ?a23 ?l23 ?c23' ?k23 ?a24 ?l24 ?c24' ?k24 ?a25 ?l25 ?c25' ?k25 ?a26 ?l26 ?c26' ?k26 ?lc3 ?v3 ?n3 ?q3 ?lc12 ?v12 ?n12 ?q12 ?lc15 ?v15 ?n15 ?q15 ?z_all ?z_max ?z_min ?z_len ?z_list ?z_abs ?z_range ?z_repr ?z_isinstance ?z_bool ?z_int ?z_str ?z_tuple ?z_sorted ?e_LATEST ?e_PLATE_SIGNS ?e_DIGITS ?e_MOST_DIGITS
    (case a1 => k_is)
    (case l1 => k_is)
    (case c1' => k_is)
    (case k1 => k_is)
    (case a2 => k_is)
    (case l2 => k_is)
    (case c2' => k_is)
    (case k2 => k_is)
    (case a3 => k_is)
    (case l3 => k_is)
    (case c3' => k_is)
    (case k3 => k_is)
    (case a4 => k_is)
    (case l4 => k_is)
    (case c4' => k_is)
    (case k4 => k_is)
    (case a5 => k_is)
    (case l5 => k_is)
    (case c5' => k_is)
    (case k5 => k_is)
    (case a6 => k_is)
    (case l6 => k_is)
    (case c6' => k_is)
    (case k6 => k_is)
    (case a7 => k_is)
    (case l7 => k_is)
    (case c7' => k_is)
    (case k7 => k_is)
    (case a8 => k_is)
    (case l8 => k_is)
    (case c8' => k_is)
    (case k8 => k_is)
    (case a9 => k_is)
    (case l9 => k_is)
    (case c9' => k_is)
    (case k9 => k_is)
    (case a10 => k_is)
    (case l10 => k_is)
    (case c10' => k_is)
    (case k10 => k_is)
    (case a11 => k_is)
    (case l11 => k_is)
    (case c11' => k_is)
    (case k11 => k_is)
    (case a12 => k_is)
    (case l12 => k_is)
    (case c12' => k_is)
    (case k12 => k_is)
    (case a13 => k_is)
    (case l13 => k_is)
    (case c13' => k_is)
    (case k13 => k_is)
    (case a14 => k_is)
    (case l14 => k_is)
    (case c14' => k_is)
    (case k14 => k_is)
    (case a15 => k_is)
    (case l15 => k_is)
    (case c15' => k_is)
    (case k15 => k_is)
    (case a16 => k_is)
    (case l16 => k_is)
    (case c16' => k_is)
    (case k16 => k_is)
    (case a17 => k_is)
    (case l17 => k_is)
    (case c17' => k_is)
    (case k17 => k_is)
    (case a18 => k_is)
    (case l18 => k_is)
    (case c18' => k_is)
    (case k18 => k_is)
    (case a19 => k_is)
    (case l19 => k_is)
    (case c19' => k_is)
    (case k19 => k_is)
    (case a20 => k_is)
    (case l20 => k_is)
    (case c20' => k_is)
    (case k20 => k_is)
    (case a21 => k_is)
    (case l21 => k_is)
    (case c21' => k_is)
    (case k21 => k_is)
    (case a22 => k_is)
    (case l22 => k_is)
    (case c22' => k_is)
    (case k22 => k_is)
    (case a23 => k_is)
    (case l23 => k_is)
    (case c23' => k_is)
    (case k23 => k_is)
    (case a24 => k_is)
    (case l24 => k_is)
    (case c24' => k_is)
    (case k24 => k_is)
    (case a25 => k_is)
    (case l25 => k_is)
    (case c25' => k_is)
    (case k25 => k_is)
    (case a26 => k_is)
    (case l26 => k_is)
    (case c26' => k_is)
    (case k26 => k_is)
    (case lc3 => k_is)
    (case v3 => rfl)
    (case n3 => kernel_rfl)
    (case q3 => kernel_rfl)
    (case lc12 => k_is)
    (case v12 => rfl)
    (case n12 => kernel_rfl)
    (case q12 => kernel_rfl)
    (case lc15 => k_is)
    (case v15 => rfl)
    (case n15 => kernel_rfl)
    (case q15 => kernel_rfl)
    (case z_all => k_is)
    (case z_max => k_is)
    (case z_min => k_is)
    (case z_len => k_is)
    (case z_list => k_is)
    (case z_abs => k_is)
    (case z_range => k_is)
    (case z_repr => k_is)
    (case z_isinstance => k_is)
    (case z_bool => k_is)
    (case z_int => k_is)
    (case z_str => k_is)
    (case z_tuple => k_is)
    (case z_sorted => k_is)
    (case e_LATEST => k_is)
    (case e_PLATE_SIGNS => k_is)
    (case e_DIGITS => k_is)
    (case e_MOST_DIGITS => k_is)
#print axioms PySem.Challenge.cw_gatepairs_k80_lines_and_logs_as_text_holds
