import PyProof.Rows.All
import Wide.All
import OpenK.AllK
import Wide.FinOn
import HandS.TupSets
import HandS.Set
import PyProof.SetRoads
import PyProof.Rows.SetFrom
import HandS.ForMost
import HandS.Conv
import HandS.AnyAll
import HandS.EndTab
import HandS.Iter
import PyProof.ReprRoads
import PyProof.ReprLen
import PyProof.StrLawsRepr
import HandS.IsInst
import HandS.Text
import PyProof.EqKinds
import PyProof.FactsAll.dict_1
import KE.DataEq
import HandS.TupAny
import HandS.Style
import HandS.More
import HandS.SortRule
import HandS.DictComp
import PyProof.GenArm
import HandS.FStr
import HandS.RaiseMore
import HandS.Deep
import HandS.NoneIn
import HandS.SortInts
import PySem.Challenge.RW_gatepairs_k31_whole_worlds_without_overt
set_option Elab.async false
set_option linter.all false
set_option maxRecDepth 100000
set_option maxHeartbeats 1000000
/-! SD0: sets of ints as objects; a set less another one. -/
namespace SD
open PySem PySem.Spec PyProof.Rows L2
/-! ### lists of ints -/
theorem perm_sub : ∀ {L ks : List Int}, L.Nodup → (∀ k ∈ L, k ∈ ks) → ks.length ≤ L.length → ks.Perm L
  | [], ks, _, _, hl => by
    have : ks = [] := List.eq_nil_of_length_eq_zero (Nat.le_zero.mp hl)
    rw [this]
  | a :: L, ks, hn, hs, hl => by
    obtain ⟨h1, h2⟩ := List.nodup_cons.mp hn
    have ha : a ∈ ks := hs a List.mem_cons_self
    have ih := perm_sub (L := L) (ks := ks.erase a) h2 (fun k hk => (List.mem_erase_of_ne fun e => h1 (by rw [← e]; exact hk)).2 (hs k (List.mem_cons_of_mem _ hk))) (by
      rw [List.length_erase_of_mem ha]
      rw [List.length_cons] at hl
      omega)
    exact (List.perm_cons_erase ha).trans (ih.cons a)
/-- the elements of a set's table, by their keys -/
inductive KeysAre : List (Int × Value) → List Int → Prop
  | nil : KeysAre [] []
  | cons {h : Int} {k : Int} {t : Tok} {es : List (Int × Value)} {ks : List Int} : h = hashInt k → KeysAre es ks → KeysAre ((h, .int k t) :: es) (k :: ks)
theorem KeysAre.length : ∀ {es : List (Int × Value)} {ks : List Int}, KeysAre es ks → es.length = ks.length
  | _, _, .nil => rfl
  | _, _, .cons _ r => by rw [List.length_cons, List.length_cons, r.length]
theorem KeysAre.mem_e : ∀ {es : List (Int × Value)} {ks : List Int} {e : Int × Value}, KeysAre es ks → e ∈ es → ∃ k t, e = (hashInt k, .int k t) ∧ k ∈ ks
  | _, _, _, .nil, h => by cases h
  | _, _, e, .cons (k := k) (t := t) hh r, h => by
    rcases List.mem_cons.mp h with h | h
    · exact ⟨k, t, by rw [h, hh], List.mem_cons_self⟩
    · obtain ⟨k', t', q1, q2⟩ := r.mem_e h
      exact ⟨k', t', q1, List.mem_cons_of_mem _ q2⟩
theorem KeysAre.mem_k : ∀ {es : List (Int × Value)} {ks : List Int} {k : Int}, KeysAre es ks → k ∈ ks → ∃ t, (hashInt k, Value.int k t) ∈ es
  | _, _, _, .nil, h => by cases h
  | _, _, k, .cons (k := k') (t := t) hh r, h => by
    rcases List.mem_cons.mp h with h | h
    · exact ⟨t, by rw [h, ← hh]; exact List.mem_cons_self⟩
    · obtain ⟨t', q⟩ := r.mem_k h
      exact ⟨t', List.mem_cons_of_mem _ q⟩
theorem KeysAre.perm : ∀ {es fs : List (Int × Value)}, fs.Perm es → ∀ {ks : List Int}, KeysAre es ks → ∃ ls, KeysAre fs ls ∧ ls.Perm ks := by
  intro es fs p
  induction p with
  | nil => intro ks h; exact ⟨ks, h, List.Perm.refl _⟩
  | cons x p ih =>
    intro ks h
    cases h with
    | cons hh r =>
      obtain ⟨ls, h1, h2⟩ := ih r
      exact ⟨_, .cons hh h1, h2.cons _⟩
  | swap x y l =>
    intro ks h
    cases h with
    | cons hh r =>
      cases r with
      | cons hh2 r => exact ⟨_, .cons hh2 (.cons hh r), List.Perm.swap _ _ _⟩
  | trans p1 p2 ih1 ih2 =>
    intro ks h
    obtain ⟨ls, h1, h2⟩ := ih2 h
    obtain ⟨ms, h3, h4⟩ := ih1 h1
    exact ⟨ms, h3, h4.trans h2⟩
theorem elems_keys {P : Program} {w : World} : ∀ {es : List (Int × Value)}, ElemsOf (intKind P w) es → ∃ ks, KeysAre es ks
  | [], _ => ⟨[], .nil⟩
  | (h, v) :: es, he => by
    obtain ⟨⟨k, h1, h2⟩, _⟩ := he.head
    obtain ⟨t, rfl⟩ := Value.isInt_shape h1
    obtain ⟨ks, r⟩ := elems_keys he.tail
    exact ⟨k :: ks, .cons h2 r⟩
theorem keys_elems {P : Program} {w : World} {es : List (Int × Value)} {ks : List Int} (h : KeysAre es ks) : ElemsOf (intKind P w) es := fun e he => by
  obtain ⟨k, t, rfl, _⟩ := h.mem_e he
  exact ⟨⟨k, by show (k == k) = true; exact beq_self_eq_true k, rfl⟩, rfl⟩
/-- a set of just these ints stands at a -/
structure SetV (h : Heap) (a : Addr) (ks : List Int) (o : Obj) (es : Array (Int × Value)) (ep : Nat) (t : SetTable) : Prop where
  ob : h.get? a = some o
  ex : o.ExactSet
  da : o.data = .set es ep t
  ke : KeysAre es.toList ks
  nd : ks.Nodup
  sz : es.size < scanBound
  ft : t.fits es.size = true
def SetP (h : Heap) (a : Addr) (L : List Int) : Prop := ∃ ks o es ep t, SetV h a ks o es ep t ∧ ks.Perm L
section
variable {P : Program} {w : World} {h h' : Heap} {a : Addr} {L : List Int}
theorem SetP.nd (x : SetP h a L) : L.Nodup := by
  obtain ⟨ks, o, es, ep, t, v, p⟩ := x
  exact p.nodup_iff.mp v.nd
theorem SetP.perm {M : List Int} (x : SetP h a L) (p : L.Perm M) : SetP h a M := by
  obtain ⟨ks, o, es, ep, t, v, q⟩ := x
  exact ⟨ks, o, es, ep, t, v, q.trans p⟩
theorem SetP.setOf (x : SetP h a L) : h.SetOf (intKind P w) a (fun k => decide (k ∈ L)) L.length := by
  obtain ⟨ks, o, es, ep, t, v, p⟩ := x
  refine ⟨o, es, ep, t, v.ob, v.ex, v.da, keys_elems v.ke, fun k => ?_, v.sz, v.ft, ?_⟩
  · rw [decide_eq_true_iff]
    constructor
    · intro hk
      obtain ⟨t', q⟩ := v.ke.mem_k (p.mem_iff.mpr hk)
      exact ⟨_, q, by show (k == k) = true; exact beq_self_eq_true k⟩
    · intro ⟨e, he, hp⟩
      obtain ⟨k', t', rfl, q⟩ := v.ke.mem_e he
      have e2 : k' = k := eq_of_beq hp
      rw [← e2]
      exact p.mem_iff.mp q
  · rw [← Array.length_toList, v.ke.length, p.length_eq]
theorem SetP.of {S : Int → Bool} {n : Nat} (x : h.SetOf (intKind P w) a S n) (hL : L.Nodup) (hn : n = L.length) (hm : ∀ k, S k = true ↔ k ∈ L) : SetP h a L := by
  obtain ⟨o, es, ep, t, ho, hx, hd, hel, hmem, hb, hf, e⟩ := x
  obtain ⟨ks, hk⟩ := elems_keys hel
  have hlen : ks.length = L.length := by rw [← hk.length, Array.length_toList, e, hn]
  have p : ks.Perm L := perm_sub hL (fun k hkL => by
    obtain ⟨e', he', hp'⟩ := (hmem k).mp ((hm k).mpr hkL)
    obtain ⟨k', t', rfl, q⟩ := hk.mem_e he'
    have e2 : k' = k := eq_of_beq hp'
    rw [← e2]
    exact q) (Nat.le_of_eq hlen)
  exact ⟨ks, o, es, ep, t, ⟨ho, hx, hd, hk, p.nodup_iff.mpr hL, hb, hf⟩, p⟩
theorem SetP.at (x : SetP h a L) (k : ∀ o, h.get? a = some o → h'.get? a = some o) : SetP h' a L := by
  obtain ⟨ks, o, es, ep, t, v, p⟩ := x
  exact ⟨ks, o, es, ep, t, ⟨k _ v.ob, v.ex, v.da, v.ke, v.nd, v.sz, v.ft⟩, p⟩
end
/-! ### loops of the machine -/
section
variable {M : Model} {A : Around} {E : Value → Shared → Prop} {s : Shared}
theorem wp_idle {α β : Type} {b : β} {f : α → β → Sem (ForInStep β)} {Q : β → Shared → Prop} : ∀ {xs : List α}, (∀ x ∈ xs, ∀ Q' : ForInStep β → Shared → Prop, Q' (.yield b) s → wpAny M A (f x b) Q' E s) → Q b s → wpAny M A (forIn xs b f) Q E s
  | [], _, h => wpAny_pure h
  | x :: xs, hx, h => by
    rw [List.forIn_cons]
    exact wpAny_bind (hx x List.mem_cons_self _ (wp_idle (fun y hy => hx y (List.mem_cons_of_mem _ hy)) h))
theorem wp_loop {α : Type} {f : α → PUnit → Sem (ForInStep PUnit)} {Q : PUnit → Shared → Prop} {I : List α → Shared → Prop} {all : List α} (hs : ∀ done x rest s, done ++ x :: rest = all → I done s → wpAny M A (f x ()) (fun r s' => r = .yield () ∧ I (done ++ [x]) s') E s) (hq : ∀ s, I all s → Q () s) :
    ∀ {xs done : List α} {s : Shared}, done ++ xs = all → I done s → wpAny M A (forIn xs () f) Q E s
  | [], done, s, e, h0 => wpAny_pure (hq s (by rw [← e, List.append_nil]; exact h0))
  | x :: xs, done, s, e, h0 => by
    rw [List.forIn_cons]
    refine wpAny_bind (wpAny_mono (hs done x xs s e h0) (fun r s' hr => ?_) fun _ _ z => z)
    obtain ⟨rfl, h1⟩ := hr
    exact wp_loop hs hq (by rw [List.append_assoc]; exact e) h1
end
section
variable {P : Program} {w : World} {A : Around} {E : Value → Shared → Prop} {s : Shared} {a : Addr} {L : List Int}
theorem wp_quiet : ∀ {sets : List Addr} {Q : Bool → Shared → Prop}, (∀ b ∈ sets, ∃ M, SetP s.heap b M) → Q true s → wpAny (model P w) A (setsQuiet sets) Q E s := by
  intro sets Q hs h
  unfold setsQuiet
  refine wpAny_bind (wp_idle (b := ((none, ()) : Option Bool × Unit)) (fun b hb Q' hq => ?_) (wpAny_pure h))
  obtain ⟨M, ks, o, es, ep, t, v, _⟩ := hs b hb
  refine wpAny_bind (wpAny_setEntries_of v.ob v.da v.ft ?_)
  refine wpAny_bind ?_
  rw [← Array.forIn_toList]
  refine wp_idle (b := ((none, ()) : Option Bool × Unit)) (fun e he Q2 hq2 => ?_) (wpAny_pure hq)
  obtain ⟨k, tk, rfl, _⟩ := v.ke.mem_e he
  exact wpAny_pure hq2
theorem wp_walk {ks : List Int} {o : Obj} {es : Array (Int × Value)} {ep : Nat} {t : SetTable} (v : SetV s.heap a ks o es ep t) {Q : Array (Int × Value) → Shared → Prop} (hp : w.params.followText "set-order" = true ∨ (t.led && t.plain) = true ∨ es.size ≤ 1)
    (h : ∀ out : Array (Int × Value), out.toList.Perm es.toList → Q out s) : wpAny (model P w) A (setWalk a) Q E s := by
  unfold setWalk
  refine wpAny_bind (wpAny_setState_of v.ob v.da v.ft ?_)
  dsimp only
  refine wpAny_bind (wpAny_byText ?_)
  cases hb : w.params.followText "set-order" with
  | true =>
    refine wp_if_pos rfl ?_
    exact wpAny_bind (wpAny_askSetting (wpAny_pure (h _ (pick_perm _ es))))
  | false =>
    refine wp_if_neg (by simp) ?_
    have hp2 : (t.led && t.plain) = true ∨ es.size ≤ 1 := hp.resolve_left (by rw [hb]; exact Bool.false_ne_true)
    have hd : (!t.plain && decide (es.size > 1)) = false := by
      rcases hp2 with e | e
      · rw [Bool.and_eq_true] at e
        rw [e.2]; rfl
      · rw [decide_eq_false (by omega : ¬ es.size > 1), Bool.and_false]
    have hl : (!t.led && decide (es.size > 1)) = false := by
      rcases hp2 with e | e
      · rw [Bool.and_eq_true] at e
        rw [e.1]; rfl
      · rw [decide_eq_false (by omega : ¬ es.size > 1), Bool.and_false]
    show wpAny _ _ (if (!t.plain && decide (es.size > 1)) = true then _ else _) _ _ _
    rw [hd]
    refine wp_if_neg (by simp) ?_
    show wpAny _ _ ((if (!t.led && decide (es.size > 1)) = true then _ else _) >>= _) _ _ _
    rw [hl]
    refine wpAny_bind (wp_if_neg (by simp) (wpAny_pure ?_))
    exact wpAny_pure (h _ (List.Perm.refl _))
/-- the elements of a set that nobody else sees, in some order; the set that is filled stays what it is -/
theorem wp_walkU {others : List Addr} {f : Option Addr} {Q : Array (Int × Value) → Shared → Prop} (x : SetP s.heap a L) (hs : ∀ b ∈ others, ∃ M, SetP s.heap b M) (hf : ∀ r, f = some r → ∃ M, SetP s.heap r M)
    (h : ∀ (out : Array (Int × Value)) (ls : List Int) (h' : Heap), KeysAre out.toList ls → ls.Perm L → (∀ b, f ≠ some b → h'.get? b = s.heap.get? b) → s.heap.objs.size ≤ h'.objs.size → (∀ r M, f = some r → SetP s.heap r M → SetP h' r M) → Q out { s with heap := h' }) : wpAny (model P w) A (setWalkUnseen a others f) Q E s := by
  obtain ⟨ks, o, es, ep, t, v, p⟩ := id x
  have fin : ∀ out : Array (Int × Value), out.toList.Perm es.toList → Q out s := fun out hp => by
    obtain ⟨ls, h1, h2⟩ := v.ke.perm hp
    exact h out ls s.heap h1 (h2.trans p) (fun _ _ => rfl) (Nat.le_refl _) fun _ _ _ z => z
  unfold setWalkUnseen
  refine wpAny_bind (wpAny_setState_of v.ob v.da v.ft ?_)
  dsimp only
  refine wpAny_bind (wpAny_byText ?_)
  by_cases hc : (w.params.followText "set-order" || t.led && t.plain || decide (es.size ≤ 1)) = true
  · refine wp_if_pos hc (wp_walk v ?_ fin)
    rw [Bool.or_eq_true, Bool.or_eq_true, decide_eq_true_iff] at hc
    rcases hc with (e | e) | e
    · exact .inl e
    · exact .inr (.inl e)
    · exact .inr (.inr e)
  · refine wp_if_neg hc ?_
    refine wpAny_bind (wp_quiet (fun b hb => ?_) ?_)
    · rcases List.mem_cons.mp hb with e | e
      · rw [e]; exact ⟨L, x⟩
      · exact hs b e
    refine wp_if_neg (by simp) ?_
    refine wpAny_bind (wpAny_rule ?_)
    cases f with
    | none => exact wpAny_pure (fin es (List.Perm.refl _))
    | some r =>
      dsimp only
      obtain ⟨M, ms, o2, ef, ep2, tf, v2, p2⟩ := hf r rfl
      refine wpAny_bind (wpAny_setState_of v2.ob v2.da v2.ft ?_)
      dsimp only
      by_cases hc2 : (tf.led && !t.led || tf.plain && !t.plain) = true
      · refine wp_if_pos hc2 (wpAny_bind (wpAny_storeSet_of v2.ob v2.da ?_ (fits_of_scanBound v2.sz)))
        refine wpAny_pure (h es ks _ v.ke p (fun b hb => ?_) (Nat.le_of_eq (Heap.size_update _ _ _).symm) fun r' M' e y => ?_)
        · exact Heap.get?_update_ne _ b r _ fun e => hb (by rw [e])
        · cases e
          have hm : ∀ k, decide (k ∈ M') = true ↔ ∃ e ∈ ef.toList, (intKind P w).is k e.2 = true := fun k => by
            obtain ⟨o4, es4, ep4, t4, g1, g2, g3, g4, g5, g6, g7, g8⟩ := y.setOf (P := P) (w := w)
            have e1 := v2.ob.symm.trans g1
            cases e1
            have e2 := v2.da.symm.trans g3
            cases e2
            exact g5 k
          have hl : ef.size = M'.length := by
            obtain ⟨ks3, o3, es3, ep3, t3, v3, p3⟩ := y
            have e1 := v2.ob.symm.trans v3.ob
            cases e1
            have e2 := v2.da.symm.trans v3.da
            cases e2
            rw [← Array.length_toList, v3.ke.length, p3.length_eq]
          exact SetP.of (SetOf_store (knd := intKind P w) (es' := ef) (t' := { mask := tf.mask, place := tf.place, dummies := tf.dummies, finger := tf.finger, led := tf.led && t.led, moves := tf.moves, plain := tf.plain && t.plain }) (S' := fun k => decide (k ∈ M')) v2.ob v2.ex v2.da (keys_elems v2.ke) hm v2.sz v2.ft).2 y.nd hl fun k => by rw [decide_eq_true_iff]
      · exact wp_if_neg hc2 (wpAny_pure (fin es (List.Perm.refl _)))
/-! ### a set less another one -/
theorem any_set {M : List Int} (x : SetP s.heap a M) {Q : Bool → Shared → Prop} (h : Q true s) : wpAny (model P w) A (Builtin.Frozenset.isAnySet (.ref a)) Q E s := by
  obtain ⟨ks, o, es, ep, t, v, p⟩ := x
  have hT : s.TypeIs (.ref a) "set" := ⟨o, v.ob, v.ex.1⟩
  unfold Builtin.Frozenset.isAnySet
  exact wpAny_bind (wpAny_isInstance hT sub_set_self (wpAny_pure h))
theorem base_set {M : List Int} (x : SetP s.heap a M) {Q : Value → Shared → Prop} (h : Q (.type "set") s) : wpAny (model P w) A (Builtin.Frozenset.baseOf a) Q E s := by
  obtain ⟨ks, o, es, ep, t, v, p⟩ := x
  have hT : s.TypeIs (.ref a) "set" := ⟨o, v.ob, v.ex.1⟩
  unfold Builtin.Frozenset.baseOf
  exact wpAny_bind (wpAny_isInstance hT sub_set_self (wpAny_pure h))
theorem size_set {M : List Int} (x : SetP s.heap a M) {Q : Nat → Shared → Prop} (h : Q M.length s) : wpAny (model P w) A (Builtin.Frozenset.sizeOf a) Q E s := by
  obtain ⟨ks, o, es, ep, t, v, p⟩ := x
  unfold Builtin.Frozenset.sizeOf
  refine wpAny_bind (wpAny_setEntries_of v.ob v.da v.ft (wpAny_pure ?_))
  rw [← Array.length_toList, v.ke.length, p.length_eq]
  exact h
theorem new_set {Q : Value → Shared → Prop} (h : ∀ led : Bool, Q (.ref s.heap.objs.size) { s with heap := s.heap.push { cls := .type "set", dict := none, data := .set #[] 0 (.fresh 0 0 led) } }) : wpAny (model P w) A (newSet (.type "set")) Q E s :=
  wpAny_newSet_of (knd := intKind P w) fun led _ => h led
theorem setP_new {led : Bool} {h : Heap} : SetV (h.push { cls := .type "set", dict := none, data := .set #[] 0 (.fresh 0 0 led) }) h.objs.size [] { cls := .type "set", dict := none, data := .set #[] 0 (.fresh 0 0 led) } #[] 0 (.fresh 0 0 led) :=
  ⟨Heap.get?_push_size _ rfl, ⟨rfl, rfl, rfl⟩, rfl, .nil, List.nodup_nil, by decide, rfl⟩
theorem epoch_set {ks : List Int} {o : Obj} {es : Array (Int × Value)} {ep : Nat} {t : SetTable} (v : SetV s.heap a ks o es ep t) {Q : Nat → Shared → Prop} (h : Q ep s) : wpAny (model P w) A (setEpoch a) Q E s := wpAny_setEpoch_of v.ob v.da v.ft h
theorem same_set {id : String} {ks : List Int} {o : Obj} {es : Array (Int × Value)} {ep : Nat} {t : SetTable} (v : SetV s.heap a ks o es ep t) {Q : Unit → Shared → Prop} (h : Q () s) : wpAny (model P w) A (Builtin.Frozenset.unchanged id a ep) Q E s := by
  unfold Builtin.Frozenset.unchanged
  refine wpAny_bind (epoch_set v ?_)
  exact wp_if_neg (by simp) (wpAny_pure h)
theorem find_set {M : List Int} (x : SetP s.heap a M) {k : Int} {tk : Tok} {Q : Option Nat → Shared → Prop} (h : ∀ r : Option Nat, r.isSome = decide (k ∈ M) → Q r s) : wpAny (model P w) A (setFind a (.int k tk) (hashInt k)) Q E s :=
  wpAny_setFind_of (knd := intKind P w) (k := k) (by show (k == k) = true; exact beq_self_eq_true k) rfl x.setOf h
/-- one element more -/
theorem add_set {M : List Int} (x : SetP s.heap a M) {k : Int} {tk : Tok} (hk : k ∉ M) (hz : M.length + 1 < scanBound) {Q : Bool → Shared → Prop} (h : ∀ h', Heap.SameBut a s.heap h' → SetP h' a (M ++ [k]) → Q true { s with heap := h' }) : wpAny (model P w) A (setAddHashed a (.int k tk) (hashInt k)) Q E s := by
  refine wpAny_setAddHashed_of (knd := intKind P w) (k := k) (by show (k == k) = true; exact beq_self_eq_true k) rfl x.setOf hz fun h' hb hS => ?_
  have e : decide (k ∈ M) = false := decide_eq_false hk
  rw [e] at hS ⊢
  refine h h' hb (SetP.of hS ?_ ?_ fun j => ?_)
  · refine List.nodup_append.mpr ⟨x.nd, by simp, fun p hp q hq => ?_⟩
    rw [List.mem_singleton.mp hq]
    exact fun z => hk (by rw [← z]; exact hp)
  · rw [List.length_append]; rfl
  · rw [Bool.or_eq_true, decide_eq_true_iff, decide_eq_true_iff, List.mem_append, List.mem_singleton]
end
end SD

set_option Elab.async false
set_option linter.all false
set_option maxRecDepth 100000
set_option maxHeartbeats 1000000
/-! SD1: a set less another one. -/
namespace SD
open PySem PySem.Spec PyProof.Rows L2
theorem KeysAre.split : ∀ {es fs : List (Int × Value)} {ks : List Int}, KeysAre (es ++ fs) ks → ∃ k1 k2, ks = k1 ++ k2 ∧ KeysAre es k1 ∧ KeysAre fs k2
  | [], _, ks, h => ⟨[], ks, rfl, .nil, h⟩
  | _ :: es, fs, _, .cons hh r => by
    obtain ⟨k1, k2, rfl, h1, h2⟩ := r.split
    exact ⟨_ :: k1, k2, rfl, .cons hh h1, h2⟩
theorem KeysAre.append : ∀ {es fs : List (Int × Value)} {k1 k2 : List Int}, KeysAre es k1 → KeysAre fs k2 → KeysAre (es ++ fs) (k1 ++ k2)
  | _, _, _, _, .nil, s => s
  | _, _, _, _, .cons hh r, s => .cons hh (r.append s)
theorem KeysAre.det : ∀ {es : List (Int × Value)} {k1 k2 : List Int}, KeysAre es k1 → KeysAre es k2 → k1 = k2
  | _, _, _, .nil, .nil => rfl
  | _, _, _, .cons _ r, .cons _ q => by rw [r.det q]
theorem range_fm {α : Type} : ∀ l : List α, (List.range l.length).filterMap (fun i => l[i]?) = l
  | [] => rfl
  | x :: l => by
    rw [List.length_cons, List.range_succ_eq_map, List.filterMap_cons]
    show x :: _ = _
    rw [List.filterMap_map]
    congr 1
    exact range_fm l
section
variable {P : Program} {w : World} {A : Around} {E : Value → Shared → Prop} {s : Shared} {a b r : Addr} {L M : List Int}
theorem diff_loop {id : String} {ep : Nat} {o : Obj} {es : Array (Int × Value)} {ks : List Int} {t : SetTable} (va : SetV s.heap a ks o es ep t) (xb : SetP s.heap b M) (xr : SetP s.heap r []) (ra : r ≠ a) (rb : r ≠ b) {out : Array (Int × Value)} {ls : List Int} (hk : KeysAre out.toList ls) (hn : ls.Nodup) (hz : ls.length + 1 < scanBound)
    {Q : PUnit → Shared → Prop} (h : ∀ h', (∀ c, c ≠ r → h'.get? c = s.heap.get? c) → SetP h' r (ls.filter fun k => decide (k ∉ M)) → Q () { s with heap := h' }) :
    wpAny (model P w) A (forIn out.toList PUnit.unit fun x _ => do
      holding [x.2] (do
        let there ← setFind b x.2 x.1
        if (!there.isSome) = true then do
          let _ ← setAddHashed r x.2 x.1
          pure ()
        else pure ())
      Builtin.Frozenset.unchanged id a ep
      pure (ForInStep.yield PUnit.unit)) Q E s := by
  refine wp_loop (all := out.toList) (I := fun done s' => ∃ h' ds, s' = { s with heap := h' } ∧ KeysAre done ds ∧ (∀ c, c ≠ r → h'.get? c = s.heap.get? c) ∧ SetP h' r (ds.filter fun k => decide (k ∉ M))) (fun done x rest s' hd hI => ?_) (fun s' hI => ?_) (done := []) rfl ⟨s.heap, [], rfl, .nil, fun _ _ => rfl, xr⟩
  · obtain ⟨h', ds, rfl, hds, hc, hr⟩ := hI
    have hkall := hk
    rw [← hd] at hkall
    obtain ⟨d2, k2, e1, q1, q2⟩ := hkall.split
    have e2 := q1.det hds
    subst e2
    cases q2 with
    | @cons hx k tk es' k2 hh q3 =>
      subst hh
      subst e1
      have hkd : k ∉ d2 := fun z => (List.nodup_append.mp hn).2.2 k z k List.mem_cons_self rfl
      have xb' : SetP h' b M := xb.at fun o' e => by rw [hc b (fun z => rb z.symm)]; exact e
      have hlen : (d2.filter fun k => decide (k ∉ M)).length + 1 < scanBound := by
        have h1 := List.length_filter_le (fun k => decide (k ∉ M)) d2
        have h2 : (d2 ++ k :: k2).length = d2.length + (k2.length + 1) := by rw [List.length_append, List.length_cons]
        omega
      have va' : ∀ h2 : Heap, (∀ c, c ≠ r → h2.get? c = s.heap.get? c) → SetV h2 a ks o es ep t := fun h2 hc2 => ⟨by rw [hc2 a fun z => ra z.symm]; exact va.ob, va.ex, va.da, va.ke, va.nd, va.sz, va.ft⟩
      refine wpAny_bind (wpAny_holding ?_)
      refine wpAny_bind (find_set (s := { s with heap := h' }) xb' fun i hi => ?_)
      have kk : KeysAre (done ++ [(hashInt k, Value.int k tk)]) (d2 ++ [k]) := hds.append (.cons rfl .nil)
      by_cases hm : k ∈ M
      · have e3 : i.isSome = true := by rw [hi, decide_eq_true hm]
        rw [e3]
        refine wp_if_neg (by simp) (wpAny_pure ?_)
        refine wpAny_bind (same_set (s := { s with heap := h' }) (va' h' hc) (wpAny_pure ⟨rfl, h', d2 ++ [k], rfl, kk, hc, ?_⟩))
        rw [List.filter_append, List.filter_cons, if_neg (by simp [hm]), List.filter_nil, List.append_nil]
        exact hr
      · have e3 : i.isSome = false := by rw [hi, decide_eq_false hm]
        rw [e3]
        refine wp_if_pos rfl ?_
        refine wpAny_bind (add_set (s := { s with heap := h' }) hr (fun z => hkd (List.mem_filter.mp z).1) hlen fun h2 hb hS => wpAny_pure ?_)
        have hc2 : ∀ c, c ≠ r → h2.get? c = s.heap.get? c := fun c hcr => (hb.2 c hcr).trans (hc c hcr)
        refine wpAny_bind (same_set (s := { s with heap := h2 }) (va' h2 hc2) (wpAny_pure ⟨rfl, h2, d2 ++ [k], rfl, kk, hc2, ?_⟩))
        rw [List.filter_append, List.filter_cons, if_pos (by simp [hm]), List.filter_nil]
        exact hS
  · obtain ⟨h', ds, rfl, hds, hc, hr⟩ := hI
    have e := hds.det hk
    subst e
    exact h h' hc hr
/-- a copy of a small set -/
theorem copy_set (xa : SetP s.heap a L) (h4 : L.length = 4) {Q : Value → Shared → Prop} (h : ∀ h' : Heap, (∀ c o, s.heap.get? c = some o → h'.get? c = some o) → (∃ ks o es ep t, SetV h' s.heap.objs.size ks o es ep t ∧ ks.Perm L ∧ t.dummies = #[]) → Q (.ref s.heap.objs.size) { s with heap := h' }) :
    wpAny (model P w) A (Builtin.Frozenset.copyOf a) Q E s := by
  obtain ⟨ks, o, es, ep, t, va, p⟩ := id xa
  have hne : s.heap.objs.size ≠ a := Nat.ne_of_gt (Heap.lt_size va.ob)
  have hes : es.size = 4 := by rw [← Array.length_toList, va.ke.length, p.length_eq, h4]
  unfold Builtin.Frozenset.copyOf
  refine wpAny_bind (base_set xa ?_)
  refine wpAny_bind (new_set fun led => ?_)
  have v0 := setP_new (led := led) (h := s.heap)
  have va' : SetV (s.heap.push { cls := .type "set", dict := none, data := .set #[] 0 (.fresh 0 0 led) }) a ks o es ep t := ⟨Heap.get?_push_of_some _ va.ob, va.ex, va.da, va.ke, va.nd, va.sz, va.ft⟩
  generalize hH : s.heap.push { cls := .type "set", dict := none, data := .set #[] 0 (.fresh 0 0 led) } = H1 at v0 va'
  have old : ∀ c o, s.heap.get? c = some o → H1.get? c = some o := fun c o e => by rw [← hH]; exact Heap.get?_push_of_some _ e
  unfold Builtin.Frozenset.addrOf
  refine wpAny_bind (wpAny_pure ?_)
  refine wpAny_bind ?_
  unfold setMerge
  refine wp_if_neg (by simpa using hne) ?_
  refine wpAny_bind (wpAny_setState_of (s := { s with heap := H1 }) va'.ob va'.da va'.ft ?_)
  dsimp only
  refine wp_if_neg (by
    intro z
    have : es.size = 0 := by simpa using z
    omega) ?_
  refine wpAny_bind ?_
  unfold setRoomFor
  refine wpAny_bind (wpAny_setState_of (s := { s with heap := H1 }) v0.ob v0.da v0.ft ?_)
  dsimp only
  have e0 : (SetTable.fresh 0 0 led).roomFor es.size = none := by rw [hes]; rfl
  rw [e0]
  refine wpAny_pure ?_
  refine wpAny_bind (wpAny_setState_of (s := { s with heap := H1 }) v0.ob v0.da v0.ft ?_)
  dsimp only
  have fin : ∀ (es2 : Array (Int × Value)) (t2 : SetTable), es2.toList.Perm es.toList → t2.fits es2.size = true → t2.dummies = #[] →
      wpAny (model P w) A (storeSet s.heap.objs.size es2 t2) (fun _ s' => wpAny (model P w) A (pure (Value.ref s.heap.objs.size)) Q E s') E { s with heap := H1 } := fun es2 t2 hp hf hd => by
    have hsz : es2.size = es.size := by rw [← Array.length_toList, hp.length_eq, Array.length_toList]
    refine wpAny_storeSet_of (s := { s with heap := H1 }) v0.ob v0.da (wpAny_pure ?_) (fits_of_scanBound (by rw [hsz]; exact va.sz))
    obtain ⟨ls, h1, h2⟩ := va.ke.perm hp
    have hg := (SetOf_store (knd := intKind P w) (S' := fun k => decide (k ∈ ls)) v0.ob v0.ex v0.da (keys_elems h1) (fun k => by
        rw [decide_eq_true_iff]
        exact ⟨fun z => let ⟨t', q⟩ := h1.mem_k z; ⟨_, q, by show (k == k) = true; exact beq_self_eq_true k⟩, fun ⟨e, he, hp'⟩ => by
          obtain ⟨k', t', rfl, q⟩ := h1.mem_e he
          have e2 : k' = k := eq_of_beq hp'
          rw [← e2]; exact q⟩) (by rw [hsz]; exact va.sz) hf).1
    refine h _ (fun c o' e => ?_) ⟨ls, _, es2, _, t2, ⟨hg, ⟨rfl, rfl, rfl⟩, rfl, h1, h2.nodup_iff.mpr va.nd, by rw [hsz]; exact va.sz, hf⟩, h2.trans p, hd⟩
    show (H1.update _ _).get? c = _
    rw [Heap.get?_update_ne _ c _ _ fun z => by rw [z] at e; exact absurd (Heap.lt_size e) (Nat.lt_irrefl _)]
    exact old c o' e
  cases hroad : (SetTable.fresh 0 0 led).road t with
  | oneByOne =>
    exfalso
    unfold SetTable.road at hroad
    rw [if_neg (by show ¬ ((0 : Nat) != 0) = true; decide)] at hroad
    split at hroad <;> cases hroad
  | slotForSlot =>
    have hd : t.dummies = #[] := by
      unfold SetTable.road at hroad
      rw [if_neg (by show ¬ ((0 : Nat) != 0) = true; decide)] at hroad
      split at hroad
      · rename_i hc
        rw [Bool.and_eq_true] at hc
        have := hc.2
        simpa using this
      · cases hroad
    exact fin es _ (List.Perm.refl _) va.ft hd
  | clean =>
    dsimp only
    obtain ⟨t', order, e1, e2, e3, e4, e5, e6, e7⟩ := relaid_ok (hs := es.map (·.1)) (wanted := 0) (M := 7) { mask := 7, place := #[], dummies := #[], finger := (SetTable.fresh 0 0 led).finger, led := (SetTable.fresh 0 0 led).led && t.led, moves := (SetTable.fresh 0 0 led).moves, plain := (SetTable.fresh 0 0 led).plain && t.plain } rfl (.inl rfl) (by rw [Array.size_map]; omega)
    have e8 : SetTable.laid (SetTable.fresh 0 0 led).mask (SetTable.fresh 0 0 led).finger (SetTable.fresh 0 0 led).moves ((SetTable.fresh 0 0 led).led && t.led) ((SetTable.fresh 0 0 led).plain && t.plain) (es.map (·.1)) = some (t', order) := e1
    rw [e8]
    have hpm : (order.filterMap (es[·]?)).toList.Perm es.toList := by
      rw [Array.toList_filterMap]
      have e9 : (List.range es.size).filterMap (es[·]?) = es.toList := by
        have e := range_fm es.toList
        rw [Array.length_toList] at e
        simpa only [Array.getElem?_toList] using e
      rw [← e9]
      rw [Array.size_map] at e2
      exact e2.filterMap _
    have hsz : (order.filterMap (es[·]?)).size = es.size := by rw [← Array.length_toList, hpm.length_eq, Array.length_toList]
    refine wpAny_bind ?_
    show wpAny _ _ (if ((order.filterMap (es[·]?)).size != es.size) = true then _ else _) _ _ _
    refine wp_if_neg (by rw [hsz]; simp) (wpAny_pure ?_)
    refine fin _ t' hpm ?_ e7
    rw [hsz]
    unfold SetTable.fits SetTable.fill
    rw [e7, e4, Bool.and_eq_true]
    have hp8 : t'.place.size = es.size := by
      rw [e3.sz, List.length_map, e2.length_eq, List.length_range, Array.size_map]
    rw [hp8]
    exact ⟨by simp, decide_eq_true (by show es.size + 0 ≤ 7; omega)⟩
end
end SD

set_option Elab.async false
set_option linter.all false
set_option maxRecDepth 100000
set_option maxHeartbeats 1000000
/-! SD2: x - y of two sets of ints. -/
namespace SD
open PySem PySem.Spec PyProof.Rows L2
section
variable {P : Program} {w : World} {A : Around} {E : Value → Shared → Prop} {s : Shared} {a b r : Addr} {L M : List Int}
theorem diff_set {sid : String} (xa : SetP s.heap a L) (xb : SetP s.heap b M) (hz : L.length + 1 < scanBound) (hs : L.length ≤ 4 ∨ L.length / 4 ≤ M.length) {Q : Value → Shared → Prop}
    (h : ∀ (h' : Heap) (r : Addr) (N : List Int), s.heap.objs.size ≤ r → (∀ c o, s.heap.get? c = some o → h'.get? c = some o) → (∀ k, k ∈ N ↔ k ∈ L ∧ k ∉ M) → SetP h' r N → N.length ≤ L.length → Q (.ref r) { s with heap := h' }) :
    wpAny (model P w) A (Builtin.Frozenset.difference sid a (.ref b)) Q E s := by
  unfold Builtin.Frozenset.difference
  refine wpAny_bind (any_set xb ?_)
  refine wp_if_neg (by simp) ?_
  unfold Builtin.Frozenset.addrOf
  refine wpAny_bind (wpAny_pure ?_)
  refine wp_if_neg (by simp) ?_
  refine wp_if_pos rfl ?_
  refine wpAny_bind (size_set xb ?_)
  refine wpAny_bind (size_set xa ?_)
  by_cases hc : L.length / 4 > M.length
  · have h4 : L.length = 4 ∧ M.length = 0 := by omega
    have hM : M = [] := List.eq_nil_of_length_eq_zero h4.2
    subst hM
    refine wp_if_pos hc (wpAny_bind (wpAny_rule ?_))
    refine wpAny_bind (copy_set xa h4.1 fun h' old hr => ?_)
    obtain ⟨ks, o, es, ep, t, vr, p, hd⟩ := hr
    refine wpAny_bind (wpAny_pure ?_)
    have xb' : SetP h' b [] := xb.at fun o' e => old b o' e
    have hbr : b ≠ s.heap.objs.size := by
      obtain ⟨_, o2, _, _, _, v2, _⟩ := xb
      exact Nat.ne_of_lt (Heap.lt_size v2.ob)
    refine wpAny_bind (wpAny_holding ?_)
    unfold Builtin.Frozenset.differenceUpdate
    refine wp_if_neg (by simpa using hbr) ?_
    refine wpAny_bind (any_set (s := { s with heap := h' }) xb' ?_)
    refine wp_if_pos rfl ?_
    unfold Builtin.Frozenset.addrOf
    refine wpAny_bind (wpAny_pure ?_)
    refine wpAny_bind (size_set (s := { s with heap := h' }) xb' ?_)
    refine wpAny_bind (size_set (s := { s with heap := h' }) ⟨ks, o, es, ep, t, vr, p⟩ ?_)
    refine wp_if_neg (by show ¬ ([] : List Int).length / 8 > L.length; simp) ?_
    obtain ⟨ks2, o2, es2, ep2, t2, vb, p2⟩ := id xb'
    refine wpAny_bind (epoch_set (s := { s with heap := h' }) vb ?_)
    refine wpAny_bind (wpAny_holding ?_)
    refine wpAny_bind (wp_walkU (s := { s with heap := h' }) (f := none) xb' (fun c hcm => ?_) (fun _ z => nomatch z) fun out ls h2 hk hp hc2 _ _ => ?_)
    · rw [List.mem_singleton.mp hcm]
      exact ⟨L, ks, o, es, ep, t, vr, p⟩
    have hls : ls = [] := List.eq_nil_of_length_eq_zero (by rw [hp.length_eq]; rfl)
    subst hls
    have ho : out.toList = [] := by
      cases hq : out.toList with
      | nil => rfl
      | cons x xs => rw [hq] at hk; cases hk
    have e2 : h2.get? s.heap.objs.size = h'.get? s.heap.objs.size := hc2 _ (fun z => nomatch z)
    refine wpAny_bind ?_
    rw [← Array.forIn_toList, ho]
    refine wpAny_pure ?_
    refine wpAny_pure ?_
    have vr2 : SetV h2 s.heap.objs.size ks o es ep t := ⟨by rw [e2]; exact vr.ob, vr.ex, vr.da, vr.ke, vr.nd, vr.sz, vr.ft⟩
    unfold setTidy
    refine wpAny_bind (wpAny_setState_of (s := { s with heap := h2 }) vr2.ob vr2.da vr2.ft ?_)
    dsimp only
    refine wp_if_neg (by
      unfold SetTable.tooManyDummies
      rw [hd]
      simp) (wpAny_pure ?_)
    refine wpAny_pure (h h2 _ L (Nat.le_refl _) (fun c o' e => by rw [hc2 c (fun z => nomatch z)]; exact old c o' e) (fun k => by simp) ⟨ks, o, es, ep, t, vr2, p⟩ (Nat.le_refl _))
  · refine wp_if_neg hc ?_
    refine wpAny_bind (base_set xa ?_)
    refine wpAny_bind (new_set fun led => ?_)
    have v0 := setP_new (led := led) (h := s.heap)
    generalize hH : s.heap.push { cls := .type "set", dict := none, data := .set #[] 0 (.fresh 0 0 led) } = H1 at v0
    have old : ∀ c o, s.heap.get? c = some o → H1.get? c = some o := fun c o e => by rw [← hH]; exact Heap.get?_push_of_some _ e
    have xa' : SetP H1 a L := xa.at fun o' e => old a o' e
    have xb' : SetP H1 b M := xb.at fun o' e => old b o' e
    have x0 : SetP H1 s.heap.objs.size [] := ⟨[], _, _, _, _, v0, List.Perm.refl _⟩
    have ra : s.heap.objs.size ≠ a := by
      obtain ⟨_, o2, _, _, _, v2, _⟩ := xa
      exact Nat.ne_of_gt (Heap.lt_size v2.ob)
    have rb : s.heap.objs.size ≠ b := by
      obtain ⟨_, o2, _, _, _, v2, _⟩ := xb
      exact Nat.ne_of_gt (Heap.lt_size v2.ob)
    refine wpAny_bind (wpAny_pure ?_)
    obtain ⟨ks, o, es, ep, t, va, p⟩ := id xa'
    refine wpAny_bind (epoch_set (s := { s with heap := H1 }) va ?_)
    refine wpAny_bind (wpAny_holding ?_)
    refine wpAny_bind (wp_if_pos rfl (wp_walkU (s := { s with heap := H1 }) (f := some s.heap.objs.size) xa' (fun c hcm => ?_) (fun c e => ?_) fun out ls h2 hk hp hc2 hsz hr2 => ?_))
    · simp only [List.mem_cons, List.not_mem_nil, or_false] at hcm
      rcases hcm with e | e
      · rw [e]; exact ⟨M, xb'⟩
      · rw [e]; exact ⟨[], x0⟩
    · cases e
      exact ⟨[], x0⟩
    have hn : ls.Nodup := hp.nodup_iff.mpr xa.nd
    have k2 : ∀ c, c ≠ s.heap.objs.size → h2.get? c = H1.get? c := fun c hcn => hc2 c fun z => hcn (Option.some.inj z).symm
    have va2 : SetV h2 a ks o es ep t := ⟨by rw [k2 a ra.symm]; exact va.ob, va.ex, va.da, va.ke, va.nd, va.sz, va.ft⟩
    refine wpAny_bind ?_
    rw [← Array.forIn_toList]
    refine diff_loop (s := { s with heap := h2 }) (id := sid) va2 (xb'.at fun o' e => by rw [k2 b rb.symm]; exact e) (hr2 _ [] rfl x0) ra rb hk hn (by rw [hp.length_eq]; exact hz) fun h3 hc3 hr3 => ?_
    refine wpAny_pure (wpAny_pure ?_)
    refine h h3 _ _ (Nat.le_refl _) (fun c o' e => ?_) (fun k => ?_) hr3 (Nat.le_trans (List.length_filter_le _ _) (Nat.le_of_eq hp.length_eq))
    · have hcn : c ≠ s.heap.objs.size := Nat.ne_of_lt (Heap.lt_size e)
      rw [hc3 c hcn, k2 c hcn]
      exact old c o' e
    · rw [List.mem_filter, decide_eq_true_iff, hp.mem_iff]
theorem entry_set_sub : entryFor table "set.__sub__" = some Builtin.«frozenset.__sub__» := entryFor_alias (id' := "frozenset.__sub__") (by kernel_rfl) rfl (by decide +kernel) (by kernel_rfl)
theorem sub_set (xa : SetP s.heap a L) (xb : SetP s.heap b M) (hz : L.length + 1 < scanBound) (hs : L.length ≤ 4 ∨ L.length / 4 ≤ M.length) {Q : Value → Shared → Prop}
    (h : ∀ (h' : Heap) (r : Addr) (N : List Int), s.heap.objs.size ≤ r → (∀ c o, s.heap.get? c = some o → h'.get? c = some o) → (∀ k, k ∈ N ↔ k ∈ L ∧ k ∉ M) → SetP h' r N → N.length ≤ L.length → Q (.ref r) { s with heap := h' }) :
    wpAny (model P w) A (binaryOp .Sub (.ref a) (.ref b)) Q E s := by
  have hTa : s.TypeIs (.ref a) "set" := by
    obtain ⟨_, o, _, _, _, v, _⟩ := xa
    exact ⟨o, v.ob, v.ex.1⟩
  have hTb : s.TypeIs (.ref b) "set" := by
    obtain ⟨_, o, _, _, _, v, _⟩ := xb
    exact ⟨o, v.ob, v.ex.1⟩
  refine wpAny_binaryOp_same hTa hTb F.fills_set_sub F.slot_set_sub (wpAny_call_entry F.slot_set_sub hTa entry_set_sub ?_ (F.args_set_sub_2 _ _))
  unfold Builtin.«frozenset.__sub__»
  refine wpAny_bind (m := Builtin.Frozenset.slot1 "__sub__" _) ?_
  unfold Builtin.Frozenset.slot1
  refine wpAny_bind (m := slotArgs "__sub__" 1 _) (wpAny_pure ?_)
  refine wpAny_pure ?_
  simp only [Bool.false_eq_true, if_false]
  refine wpAny_bind (m := (Builtin.Frozenset.isAnySet (.ref a) <&&> Builtin.Frozenset.isAnySet (.ref b))) ?_
  unfold andM
  refine wpAny_bind (any_set xa (any_set xb ?_))
  refine wp_if_neg (by simp) ?_
  unfold Builtin.Frozenset.addrOf
  refine wpAny_bind (wpAny_pure ?_)
  refine wpAny_bind (diff_set xa xb hz hs fun h' r N h1 h2 h3 h4 h5 => ?_)
  exact wpAny_pure ⟨_, rfl, (fun z => nomatch z), h h' r N h1 h2 h3 h4 h5⟩
end
end SD

set_option Elab.async false
set_option linter.all false
set_option maxRecDepth 100000
set_option maxHeartbeats 2000000
/-! DL0: data, what a value shows of it, how heaps grow, the state of a frame told by data. -/
namespace DL
open PySem PySem.Spec L2

abbrev D := PyData
def kD : Key → D
  | .inl i => .int i
  | .inr x => .str x

/-- a number that repr does not write -/
def badI : Int := 2 ^ 2000
/-- an instance of the class at C with its attributes, as data (a dict that no dict shows) -/
def insD (C : Addr) (ns : List Str) (ds : List D) : D := .dict [(.none, .int badI), (.none, .int (C : Nat)), (.none, .list (ns.map .str)), (.none, .list ds)]
/-- the data of an instance -/
def isM : List (D × D) → Bool
  | (.none, .int i) :: _ => decide (i = badI)
  | _ => false
theorem isM_ins (r : List (D × D)) : isM ((.none, .int badI) :: r) = true := by
  unfold isM
  exact decide_eq_true (Eq.refl badI)
mutual
/-- the value v shows the data d, in the heap H -/
inductive Rp (H : Hp) : V → D → Prop
  | non : Rp H .non .none
  | bl (b : Bool) : Rp H (.bl b) (.bool b)
  | int (i : Int) : Rp H (.int i) (.int i)
  | str (x : Str) : Rp H (.str x) (.str x)
  | lst {a : Addr} {xs : List V} {ds : List D} : H a = some (.lst xs) → RpA H xs ds → Rp H (.ref a) (.list ds)
  | tup {a : Addr} {xs : List V} {ds : List D} : H a = some (.tup xs) → RpA H xs ds → Rp H (.ref a) (.tuple ds)
  | dic {a : Addr} {kvs : List (Key × V)} {ds : List (D × D)} : Rd H a (.dK kvs) → (kvs.map (·.1)).Nodup → RpK H kvs ds → Rp H (.ref a) (.dict ds)
  | ins {a C dx : Addr} {ns : List Str} {vs : List V} {ds : List D} : H a = some (.ins C dx (ns.zip vs)) → ns.length = vs.length → RpA H vs ds → Rp H (.ref a) (.dict [(.none, .int badI), (.none, .int (C : Nat)), (.none, .list (ns.map .str)), (.none, .list ds)])
inductive RpA (H : Hp) : List V → List D → Prop
  | nil : RpA H [] []
  | cons {v : V} {vs : List V} {d : D} {ds : List D} : Rp H v d → RpA H vs ds → RpA H (v :: vs) (d :: ds)
inductive RpK (H : Hp) : List (Key × V) → List (D × D) → Prop
  | nil : RpK H [] []
  | cons {k : Key} {v : V} {kvs : List (Key × V)} {d : D} {ds : List (D × D)} : Rp H v d → RpK H kvs ds → RpK H ((k, v) :: kvs) ((kD k, d) :: ds)
end

/-- all data of H is in H' -/
structure Le (H H' : Hp) : Prop where
  lst : ∀ a xs, H a = some (.lst xs) → H' a = some (.lst xs)
  tup : ∀ a xs, H a = some (.tup xs) → H' a = some (.tup xs)
  dic : ∀ a kvs, Rd H a (.dK kvs) → Rd H' a (.dK kvs)
  seq : ∀ a xs, Rd H a (.lst xs) → Rd H' a (.lst xs)
  ins : ∀ a C dx fs, H a = some (.ins C dx fs) → H' a = some (.ins C dx fs)
theorem Le.refl (H : Hp) : Le H H := ⟨fun _ _ h => h, fun _ _ h => h, fun _ _ h => h, fun _ _ h => h, fun _ _ _ _ h => h⟩
theorem Le.trans {H H1 H2 : Hp} (a : Le H H1) (b : Le H1 H2) : Le H H2 := ⟨fun x y h => b.lst x y (a.lst x y h), fun x y h => b.tup x y (a.tup x y h), fun x y h => b.dic x y (a.dic x y h), fun x y h => b.seq x y (a.seq x y h), fun x C dx fs h => b.ins x C dx fs (a.ins x C dx fs h)⟩

mutual
theorem Rp.mono {H H' : Hp} (l : Le H H') : ∀ {v : V} {d : D}, Rp H v d → Rp H' v d
  | _, _, .non => .non
  | _, _, .bl b => .bl b
  | _, _, .int i => .int i
  | _, _, .str x => .str x
  | _, _, .lst h r => .lst (l.lst _ _ h) (RpA.mono l r)
  | _, _, .tup h r => .tup (l.tup _ _ h) (RpA.mono l r)
  | _, _, .dic h n r => .dic (l.dic _ _ h) n (RpK.mono l r)
  | _, _, .ins h n r => .ins (l.ins _ _ _ _ h) n (RpA.mono l r)
theorem RpA.mono {H H' : Hp} (l : Le H H') : ∀ {v : List V} {d : List D}, RpA H v d → RpA H' v d
  | _, _, .nil => .nil
  | _, _, .cons h r => .cons (Rp.mono l h) (RpA.mono l r)
theorem RpK.mono {H H' : Hp} (l : Le H H') : ∀ {v : List (Key × V)} {d : List (D × D)}, RpK H v d → RpK H' v d
  | _, _, .nil => .nil
  | _, _, .cons h r => .cons (Rp.mono l h) (RpK.mono l r)
end

section
variable {H : Hp}
theorem RpA.length : ∀ {vs : List V} {ds : List D}, RpA H vs ds → vs.length = ds.length
  | _, _, .nil => rfl
  | _, _, .cons _ r => by rw [List.length_cons, List.length_cons, RpA.length r]
theorem RpA.get : ∀ {vs : List V} {ds : List D} {i : Nat} {d : D}, RpA H vs ds → ds[i]? = some d → ∃ v, vs[i]? = some v ∧ Rp H v d
  | _, _, _, _, .nil, e => by simp at e
  | _, _, 0, _, .cons h _, e => by
    have e : _ = _ := Option.some.inj e
    subst e
    exact ⟨_, rfl, h⟩
  | _, _, i + 1, d, .cons _ r, e => RpA.get (i := i) (d := d) r e
theorem RpA.getV : ∀ {vs : List V} {ds : List D} {i : Nat} {v : V}, RpA H vs ds → vs[i]? = some v → ∃ d, ds[i]? = some d ∧ Rp H v d
  | _, _, _, _, .nil, e => by simp at e
  | _, _, 0, _, .cons h _, e => by
    have e : _ = _ := Option.some.inj e
    subst e
    exact ⟨_, rfl, h⟩
  | _, _, i + 1, v, .cons _ r, e => RpA.getV (i := i) (v := v) r e
theorem RpA.append : ∀ {vs ws : List V} {ds es : List D}, RpA H vs ds → RpA H ws es → RpA H (vs ++ ws) (ds ++ es)
  | _, _, _, _, .nil, s => s
  | _, _, _, _, .cons h r, s => .cons h (RpA.append r s)
theorem RpA.take : ∀ {vs : List V} {ds : List D} (n : Nat), RpA H vs ds → RpA H (vs.take n) (ds.take n)
  | _, _, 0, _ => .nil
  | _, _, _ + 1, .nil => .nil
  | _, _, n + 1, .cons h r => .cons h (RpA.take n r)
theorem RpA.drop : ∀ {vs : List V} {ds : List D} (n : Nat), RpA H vs ds → RpA H (vs.drop n) (ds.drop n)
  | _, _, 0, r => r
  | _, _, _ + 1, .nil => .nil
  | _, _, n + 1, .cons _ r => RpA.drop n r
theorem RpA.one {v : V} {d : D} (h : Rp H v d) : RpA H [v] [d] := .cons h .nil
theorem RpK.length : ∀ {vs : List (Key × V)} {ds : List (D × D)}, RpK H vs ds → vs.length = ds.length
  | _, _, .nil => rfl
  | _, _, .cons _ r => by rw [List.length_cons, List.length_cons, RpK.length r]
end

/-! ### hidden objects, growth -/
/-- H without the objects at O -/
def vis (O : List Addr) (H : Hp) : Hp := fun a => if a ∈ O then none else H a
theorem vis_in {O : List Addr} {H : Hp} {a : Addr} (h : a ∈ O) : vis O H a = none := by unfold vis; rw [if_pos h]
theorem vis_out {O : List Addr} {H : Hp} {a : Addr} (h : a ∉ O) : vis O H a = H a := by unfold vis; rw [if_neg h]
theorem vis_some {O : List Addr} {H : Hp} {a : Addr} {o : HO} (h : vis O H a = some o) : a ∉ O ∧ H a = some o := by
  unfold vis at h
  split at h
  · cases h
  · exact ⟨by assumption, h⟩
/-- what a kept object may have become: itself; a grown table; itself, locked by a loop -/
def Kept (Lk : List Addr) (a : Addr) (o : HO) (H : Hp) : Prop :=
  H a = some o ∨ (∃ ps ps', o = .tbl ps ∧ H a = some (.tbl ps') ∧ TriplesOk ps'.toList) ∨ (a ∈ Lk ∧ ∃ od, H a = some (.frz od o))
def Gr (M Lk : List Addr) (B H : Hp) : Prop := ∀ a o, a ∉ M → B a = some o → Kept Lk a o H
theorem Gr.refl (M Lk : List Addr) (H : Hp) : Gr M Lk H H := fun _ _ _ h => .inl h
theorem Gr.trans {M M' Lk : List Addr} {B H H' : Hp} (x : Gr M Lk B H) (y : Gr M' [] H H') (hm : ∀ a ∈ M', a ∈ M ∨ B a = none) : Gr M Lk B H' := fun a o ha e => by
  have hm' : a ∉ M' := fun z => (hm a z).elim ha fun q => by rw [q] at e; cases e
  rcases x a o ha e with h | ⟨ps, ps', rfl, h, ht⟩ | ⟨hl, od, h⟩
  · rcases y a o hm' h with h | h | ⟨z, _⟩
    · exact .inl h
    · exact .inr (.inl h)
    · cases z
  · rcases y a _ hm' h with h | ⟨qs, qs', e1, h, ht'⟩ | ⟨z, _⟩
    · exact .inr (.inl ⟨ps, ps', rfl, h, ht⟩)
    · exact .inr (.inl ⟨ps, qs', rfl, h, ht'⟩)
    · cases z
  · rcases y a _ hm' h with h | ⟨qs, qs', e1, h, ht'⟩ | ⟨z, _⟩
    · exact .inr (.inr ⟨hl, od, h⟩)
    · cases e1
    · cases z
theorem Gr.le {M : List Addr} {H H' : Hp} (g : Gr M [] H H') {O : List Addr} (hm : ∀ a ∈ M, a ∈ O) : Le (vis O H) (vis O H') := by
  have key : ∀ a o, vis O H a = some o → (∀ ps, o ≠ .tbl ps) → vis O H' a = some o := fun a o h nt => by
    obtain ⟨ha, h⟩ := vis_some h
    rw [vis_out ha]
    rcases g a o (fun z => ha (hm a z)) h with h | ⟨ps, _, e, _⟩ | ⟨z, _⟩
    · exact h
    · exact absurd e (nt ps)
    · cases z
  refine ⟨fun a xs h => key a _ h (fun _ z => nomatch z), fun a xs h => key a _ h (fun _ z => nomatch z), fun a kvs h => ?_, fun a xs h => ?_, fun a C dx fs h => key a _ h (fun _ z => nomatch z)⟩
  · rcases h with h | ⟨o, h⟩
    · exact .inl (key a _ h (fun _ z => nomatch z))
    · exact .inr ⟨o, key a _ h (fun _ z => nomatch z)⟩
  · rcases h with h | ⟨o, h⟩
    · exact .inl (key a _ h (fun _ z => nomatch z))
    · exact .inr ⟨o, key a _ h (fun _ z => nomatch z)⟩
theorem Gr.new {M Lk : List Addr} {B H : Hp} (g : Gr M Lk B H) {p : Addr} {o : HO} (h : H p = none) : Gr M Lk B (upd H p o) := fun a u ha e => by
  have ne : ∀ {u : HO}, H a = some u → a ≠ p := fun e z => by rw [z, h] at e; cases e
  rcases g a u ha e with h | ⟨ps, ps', e1, h, t⟩ | ⟨l, od, h⟩
  · exact .inl (by rw [upd_ne (ne h)]; exact h)
  · exact .inr (.inl ⟨ps, ps', e1, by rw [upd_ne (ne h)]; exact h, t⟩)
  · exact .inr (.inr ⟨l, od, by rw [upd_ne (ne h)]; exact h⟩)
/-- a new object may change -/
theorem Gr.mut {M Lk : List Addr} {B H : Hp} (g : Gr M Lk B H) {p : Addr} {o : HO} (h : p ∈ M ∨ B p = none) : Gr M Lk B (upd H p o) := fun a u ha e => by
  have ne : a ≠ p := fun z => by
    rw [z] at ha e
    exact h.elim ha fun q => by rw [q] at e; cases e
  rcases g a u ha e with h | ⟨ps, ps', e1, h, t⟩ | ⟨l, od, h⟩
  · exact .inl (by rw [upd_ne ne]; exact h)
  · exact .inr (.inl ⟨ps, ps', e1, by rw [upd_ne ne]; exact h, t⟩)
  · exact .inr (.inr ⟨l, od, by rw [upd_ne ne]; exact h⟩)
theorem le_new {O : List Addr} {H : Hp} {p : Addr} {o : HO} (h : H p = none) : Le (vis O H) (vis O (upd H p o)) :=
  Gr.le (M := []) (fun a u _ e => .inl (by rw [upd_ne (ne_of_none e h)]; exact e)) (fun _ z => nomatch z)
/-- hidden objects may change -/
theorem le_mut {O : List Addr} {H : Hp} {p : Addr} {o : HO} (h : p ∈ O) : vis O (upd H p o) = vis O H := by
  funext a
  by_cases ha : a ∈ O
  · rw [vis_in ha, vis_in ha]
  · rw [vis_out ha, vis_out ha, upd_ne (fun z => ha (by rw [z]; exact h))]
theorem vis_le {O O' : List Addr} {H : Hp} (h : ∀ a ∈ O', a ∈ O) : Le (vis O H) (vis O' H) := by
  have key : ∀ a o, vis O H a = some o → vis O' H a = some o := fun a o e => by
    obtain ⟨ha, e⟩ := vis_some e
    rw [vis_out fun z => ha (h a z)]
    exact e
  exact ⟨fun a _ e => key a _ e, fun a _ e => key a _ e, fun a _ e => e.elim (fun e => .inl (key a _ e)) fun ⟨o, e⟩ => .inr ⟨o, key a _ e⟩, fun a _ e => e.elim (fun e => .inl (key a _ e)) fun ⟨o, e⟩ => .inr ⟨o, key a _ e⟩, fun a _ _ _ e => key a _ e⟩

/-! ### the state of a frame -/
/-- what a frame owns -/
inductive OD where
  | feed
  | lst (ds : List D)
  | dic (ks : List (D × D))
  | lss (qs : List (Addr × List D))
/-- the lists within -/
def innA : OD → List Addr
  | .lss qs => qs.map (·.1)
  | _ => []
inductive Sl where
  | d (d : D)
  | own (o : OD)
  | scr (ns : List Int)
abbrev Dl := List (Option Sl)
/-- no new object is locked -/
def Nf (H H' : Hp) : Prop := ∀ a od u, H' a = some (.frz od u) → H a ≠ none
def FeedAt (H : Hp) (p : Addr) : Prop := ∃ a b : Int, H p = some (.lst [.int a, .int b])
def OwnAt (O : List Addr) (H : Hp) (p : Addr) : OD → Prop
  | .feed => FeedAt H p
  | .lst ds => ∃ xs, H p = some (.lst xs) ∧ RpA (vis O H) xs ds
  | .dic ks => ∃ kvs, H p = some (.dK kvs) ∧ (kvs.map (·.1)).Nodup ∧ RpK (vis O H) kvs ks
  | .lss qs => H p = some (.lst (qs.map fun x => V.ref x.1)) ∧ ∀ x ∈ qs, x.1 ∈ O ∧ ∃ xs, H x.1 = some (.lst xs) ∧ RpA (vis O H) xs x.2
/-- G: the class of laws' text (K), the tables -/
structure Glo where
  K : PySem.W.Frag
  Tb : List Addr
def SlOk (G : Glo) (B : Hp) (M O : List Addr) (H : Hp) (v : V) : Sl → Prop
  | .d d => Rp (vis O H) v d
  | .own o => ∃ p, v = .ref p ∧ p ∈ O ∧ (p ∈ M ∨ B p = none) ∧ (o = .feed ∨ B p = none) ∧ OwnAt O H p o
  | .scr ns => ∃ a, v = .ref a ∧ SqL G.K (vis O H) a (ns.map V.int)
/-- the dicts that a loop walks; objects that are hidden and stay as they are (a list that a comprehension makes) -/
abbrev Lks := List (Addr × Obj × HO) × List (Addr × HO)
/-- lists within own lists are nobody else's -/
structure InnA (B : Hp) (Lh : List (Addr × HO)) (δ : Dl) (σ : L2.St) : Prop where
  nd : ∀ (i : Nat) (o : OD), δ[i]? = some (some (.own o)) → (innA o).Nodup
  new : ∀ (i : Nat) (o : OD), δ[i]? = some (some (.own o)) → ∀ x ∈ innA o, B x = none
  hid : ∀ (i : Nat) (o : OD), δ[i]? = some (some (.own o)) → ∀ x ∈ innA o, ∀ p ∈ Lh, p.1 ≠ x
  own : ∀ (i j : Nat) (o o' : OD), δ[i]? = some (some (.own o)) → δ[j]? = some (some (.own o')) → ∀ x ∈ innA o, σ[j]? ≠ some (some (.ref x))
  inn : ∀ (i j : Nat) (o o' : OD) (x : Addr), δ[i]? = some (some (.own o)) → δ[j]? = some (some (.own o')) → x ∈ innA o → x ∈ innA o' → i = j
/-- B: the heap at the frame's entry; O0: what its callers own; M: what of it the frame may change (its feed); Lk: dicts that a loop walks -/
structure AtO (G : Glo) (B : Hp) (O0 M : List Addr) (Lk : Lks) (O : List Addr) (δ : Dl) (σ : L2.St) (τ : List (V × D)) (H : Hp) : Prop where
  sub0 : ∀ p ∈ O0, p ∈ O
  subM : ∀ p ∈ M, p ∈ O0
  o0 : ∀ p ∈ O0, B p ≠ none
  new : ∀ p ∈ O, p ∈ O0 ∨ B p = none
  live : ∀ p ∈ O, H p ≠ none
  gr : Gr M (Lk.1.map (·.1)) B H
  hid : ∀ p ∈ Lk.2, H p.1 = some p.2 ∧ p.1 ∈ O ∧ B p.1 = none ∧ ∀ (i : Nat) (o : OD), δ[i]? = some (some (.own o)) → σ[i]? ≠ some (some (.ref p.1))
  hidT : ∀ p ∈ Lk.2, ∀ ps, p.2 ≠ .tbl ps
  feeds : ∀ f ∈ M, FeedAt H f
  tabs : ∀ P ∈ G.Tb, GxR.TabG H P
  tmp : ∀ p ∈ τ, Rp (vis O H) p.1 p.2
  len : δ.length = σ.length
  slots : ∀ (i : Nat) (sl : Sl), δ[i]? = some (some sl) → ∃ v, σ[i]? = some (some v) ∧ SlOk G B M O H v sl
  sep : ∀ (i j : Nat) (o o' : OD) (p : Addr), δ[i]? = some (some (.own o)) → δ[j]? = some (some (.own o')) → σ[i]? = some (some (.ref p)) → σ[j]? = some (some (.ref p)) → i = j
  lck : ∀ p ∈ Lk.1, p.1 ∉ O ∧ H p.1 = some (.frz p.2.1 p.2.2)
  nof : ∀ a od u, H a = some (.frz od u) → B a ≠ none ∨ a ∈ Lk.1.map (·.1)
  inn : InnA B Lk.2 δ σ
def At (G : Glo) (B : Hp) (O0 M : List Addr) (Lk : Lks) (δ : Dl) (σ : L2.St) (τ : List (V × D)) (H : Hp) : Prop := ∃ O, AtO G B O0 M Lk O δ σ τ H
section
variable {B : Hp} {Lh : List (Addr × HO)} {δ δ' : Dl} {σ σ' : L2.St}
theorem InnA.map (h : InnA B Lh δ σ) (f : Nat → Nat) (hf : ∀ (i j : Nat) (o o' : OD), δ'[i]? = some (some (.own o)) → δ'[j]? = some (some (.own o')) → f i = f j → i = j)
    (hs : ∀ i o, δ'[i]? = some (some (.own o)) → ∃ o0, δ[f i]? = some (some (.own o0)) ∧ innA o = innA o0 ∧ σ'[i]? = σ[f i]?) : InnA B Lh δ' σ' := by
  refine ⟨fun i o e => ?_, fun i o e x hx => ?_, fun i o e x hx => ?_, fun i j o o' e e' x hx => ?_, fun i j o o' x e e' hx hy => ?_⟩
  · obtain ⟨o0, e0, h1, _⟩ := hs i o e
    rw [h1]
    exact h.nd _ _ e0
  · obtain ⟨o0, e0, h1, _⟩ := hs i o e
    rw [h1] at hx
    exact h.new _ _ e0 x hx
  · obtain ⟨o0, e0, h1, _⟩ := hs i o e
    rw [h1] at hx
    exact h.hid _ _ e0 x hx
  · obtain ⟨o0, e0, h1, _⟩ := hs i o e
    obtain ⟨o1, e1, h2, h3⟩ := hs j o' e'
    rw [h1] at hx
    rw [h3]
    exact h.own _ _ _ _ e0 e1 x hx
  · obtain ⟨o0, e0, h1, _⟩ := hs i o e
    obtain ⟨o1, e1, h2, h3⟩ := hs j o' e'
    rw [h1] at hx
    rw [h2] at hy
    exact hf i j o o' e e' (h.inn _ _ _ _ x e0 e1 hx hy)
/-- a slot is told otherwise, by data or not at all -/
theorem InnA.setD (h : InnA B Lh δ σ) {j : Nat} {x : Option Sl} (hx : ∀ o, x ≠ some (.own o)) (u : Option V) : InnA B Lh (δ.set j x) (σ.set j u) := by
  refine h.map id (fun _ _ _ _ _ _ z => z) fun i o e => ?_
  have n : j ≠ i := fun z => by
    subst z
    have hlt : j < δ.length := by
      have := (List.getElem?_eq_some_iff.mp e).1
      rwa [List.length_set] at this
    rw [List.getElem?_set_self hlt] at e
    exact hx o (Option.some.inj e)
  rw [List.getElem?_set_ne n] at e
  exact ⟨o, e, rfl, List.getElem?_set_ne n⟩
theorem InnA.tellD (h : InnA B Lh δ σ) {j : Nat} {x : Option Sl} (hx : ∀ o, x ≠ some (.own o)) : InnA B Lh (δ.set j x) σ := by
  refine h.map id (fun _ _ _ _ _ _ z => z) fun i o e => ?_
  have n : j ≠ i := fun z => by
    subst z
    have hlt : j < δ.length := by
      have := (List.getElem?_eq_some_iff.mp e).1
      rwa [List.length_set] at this
    rw [List.getElem?_set_self hlt] at e
    exact hx o (Option.some.inj e)
  rw [List.getElem?_set_ne n] at e
  exact ⟨o, e, rfl, rfl⟩
theorem InnA.mut (h : InnA B Lh δ σ) {j : Nat} {o0 o1 : OD} (hj : δ[j]? = some (some (.own o0))) (ho : innA o1 = innA o0) : InnA B Lh (δ.set j (some (.own o1))) σ := by
  refine h.map id (fun _ _ _ _ _ _ z => z) fun i o e => ?_
  by_cases n : j = i
  · subst n
    have hlt : j < δ.length := (List.getElem?_eq_some_iff.mp hj).1
    rw [List.getElem?_set_self hlt] at e
    cases e
    exact ⟨o0, hj, ho, rfl⟩
  · rw [List.getElem?_set_ne n] at e
    exact ⟨o, e, rfl, rfl⟩
/-- a new own object -/
theorem InnA.setO (h : InnA B Lh δ σ) {j : Nat} {o1 : OD} {p : Addr} (ho : innA o1 = []) (hp : ∀ (i : Nat) (o : OD), δ[i]? = some (some (.own o)) → p ∉ innA o) (hl : δ.length = σ.length) : InnA B Lh (δ.set j (some (.own o1))) (σ.set j (some (.ref p))) := by
  have key : ∀ (i : Nat) (o : OD), (δ.set j (some (.own o1)))[i]? = some (some (.own o)) → (innA o = [] ∧ j = i ∧ (σ.set j (some (.ref p)))[i]? = some (some (.ref p))) ∨ (δ[i]? = some (some (.own o)) ∧ j ≠ i ∧ (σ.set j (some (.ref p)))[i]? = σ[i]?) := fun i o e => by
    by_cases n : j = i
    · subst n
      have hlt : j < δ.length := by
        have := (List.getElem?_eq_some_iff.mp e).1
        rwa [List.length_set] at this
      rw [List.getElem?_set_self hlt] at e
      cases e
      exact .inl ⟨ho, rfl, List.getElem?_set_self (by rw [← hl]; exact hlt)⟩
    · rw [List.getElem?_set_ne n] at e
      exact .inr ⟨e, n, List.getElem?_set_ne n⟩
  refine ⟨fun i o e => ?_, fun i o e x hx => ?_, fun i o e x hx => ?_, fun i j o o' e e' x hx => ?_, fun i j o o' x e e' hx hy => ?_⟩
  · rcases key i o e with ⟨z, _⟩ | ⟨e, _⟩
    · rw [z]; exact List.nodup_nil
    · exact h.nd i o e
  · rcases key i o e with ⟨z, _⟩ | ⟨e, _⟩
    · rw [z] at hx; cases hx
    · exact h.new i o e x hx
  · rcases key i o e with ⟨z, _⟩ | ⟨e, _⟩
    · rw [z] at hx; cases hx
    · exact h.hid i o e x hx
  · rcases key i o e with ⟨z, _⟩ | ⟨e, _⟩
    · rw [z] at hx; cases hx
    · rcases key j o' e' with ⟨_, _, z⟩ | ⟨e', _, z⟩
      · rw [z]
        intro q
        have : p = x := V.ref.inj (Option.some.inj (Option.some.inj q))
        exact hp i o e (by rw [this]; exact hx)
      · rw [z]
        exact h.own i j o o' e e' x hx
  · rcases key i o e with ⟨z, _⟩ | ⟨e, _⟩
    · rw [z] at hx; cases hx
    · rcases key j o' e' with ⟨z, _⟩ | ⟨e', _⟩
      · rw [z] at hy; cases hy
      · exact h.inn i j o o' x e e' hx hy
theorem InnA.none (h : ∀ (i : Nat) (o : OD), δ[i]? = some (some (.own o)) → innA o = []) : InnA B Lh δ σ := by
  have k : ∀ (i : Nat) (o : OD), δ[i]? = some (some (.own o)) → ∀ x, x ∉ innA o := fun i o e x hx => by
    rw [h i o e] at hx
    cases hx
  exact ⟨fun i o e => (by rw [h i o e]; exact List.nodup_nil), fun i o e x hx => absurd hx (k i o e x), fun i o e x hx => absurd hx (k i o e x), fun i j o o' e _ x hx => absurd hx (k i o e x), fun i j o o' x e _ hx => absurd hx (k i o e x)⟩
theorem InnA.less (h : InnA B Lh δ σ) {L3 : List (Addr × HO)} (hs : ∀ p ∈ L3, p ∈ Lh) : InnA B L3 δ σ :=
  ⟨h.nd, h.new, fun i o e x hx p hp => h.hid i o e x hx p (hs p hp), h.own, h.inn⟩
theorem InnA.more (h : InnA B Lh δ σ) {a : Addr} {u : HO} (ha : ∀ (i : Nat) (o : OD), δ[i]? = some (some (.own o)) → a ∉ innA o) : InnA B ((a, u) :: Lh) δ σ :=
  ⟨h.nd, h.new, fun i o e x hx p hp => by
    rcases List.mem_cons.mp hp with q | hp
    · rw [q]; exact fun z => ha i o e (by rw [show a = x from z]; exact hx)
    · exact h.hid i o e x hx p hp, h.own, h.inn⟩
end
section
variable {G : Glo} {B : Hp} {O0 M O : List Addr} {Lk : Lks} {δ : Dl} {σ : L2.St} {τ : List (V × D)} {H : Hp}
theorem OwnAt.innO {p : Addr} {o : OD} (h : OwnAt O H p o) {x : Addr} (hx : x ∈ innA o) : x ∈ O := by
  cases o with
  | lss qs =>
    obtain ⟨y, hy, rfl⟩ := List.mem_map.mp hx
    exact (h.2 y hy).1
  | feed => cases hx
  | lst ds => cases hx
  | dic ks => cases hx
theorem AtO.innO (I : AtO G B O0 M Lk O δ σ τ H) {i : Nat} {o : OD} (e : δ[i]? = some (some (.own o))) {x : Addr} (hx : x ∈ innA o) : x ∈ O := by
  cases o with
  | lss qs =>
    obtain ⟨y, hy, rfl⟩ := List.mem_map.mp hx
    obtain ⟨_, _, _, _, _, _, _, _, h⟩ := I.slots i _ e
    exact (h y hy).1
  | feed => cases hx
  | lst ds => cases hx
  | dic ks => cases hx
theorem AtO.innN (I : AtO G B O0 M Lk O δ σ τ H) {a : Addr} (ha : a ∉ O) : ∀ (i : Nat) (o : OD), δ[i]? = some (some (.own o)) → a ∉ innA o := fun i o e hx => ha (I.innO e hx)
end
end DL

set_option Elab.async false
set_option linter.all false
set_option maxRecDepth 100000
set_option maxHeartbeats 2000000
/-! DL1: expressions told by data. -/
namespace DL
open PySem PySem.Spec L2

section
variable {G : Glo} {B : Hp} {O0 M O : List Addr} {Lk : Lks} {δ : Dl} {σ : L2.St} {τ : List (V × D)} {H H' : Hp}

theorem FeedAt.gr {M' : List Addr} (g : Gr M' [] H H') {p : Addr} (hp : p ∉ M') (h : FeedAt H p) : FeedAt H' p := by
  obtain ⟨a, b, h⟩ := h
  rcases g p _ hp h with h | ⟨_, _, e, _⟩ | ⟨z, _⟩
  · exact ⟨a, b, h⟩
  · cases e
  · cases z
theorem TabG.gr {M' : List Addr} (g : Gr M' [] H H') {p : Addr} (hp : p ∉ M') (h : GxR.TabG H p) : GxR.TabG H' p := by
  obtain ⟨ps, h, t⟩ := h
  rcases g p _ hp h with h | ⟨_, ps', _, h, t'⟩ | ⟨z, _⟩
  · exact ⟨ps, h, t⟩
  · exact ⟨ps', h, t'⟩
  · cases z
theorem OwnAt.le {p : Addr} {o : OD} (l : Le (vis O H) (vis O H')) (hl : ∀ xs, H p = some (.lst xs) → H' p = some (.lst xs)) (hd : ∀ kvs, H p = some (.dK kvs) → H' p = some (.dK kvs)) (hi : ∀ x ∈ innA o, ∀ xs, H x = some (.lst xs) → H' x = some (.lst xs)) (h : OwnAt O H p o) : OwnAt O H' p o := by
  cases o with
  | feed => obtain ⟨a, b, h⟩ := h; exact ⟨a, b, hl _ h⟩
  | lst ds => obtain ⟨xs, h, r⟩ := h; exact ⟨xs, hl _ h, r.mono l⟩
  | dic ks => obtain ⟨kvs, h, n, r⟩ := h; exact ⟨kvs, hd _ h, n, r.mono l⟩
  | lss qs =>
    refine ⟨hl _ h.1, fun x hx => ⟨(h.2 x hx).1, ?_⟩⟩
    obtain ⟨xs, e, r⟩ := (h.2 x hx).2
    exact ⟨xs, hi x.1 (List.mem_map_of_mem hx) xs e, r.mono l⟩
theorem ex_seq {K : PySem.W.Frag} {H H' : Hp} {a : Addr} {xs : List V} (l : Le H H') (h : SqL K H a xs) : SqL K H' a xs := by
  rcases h with h | h
  · exact .inl (l.seq _ _ h)
  · exact .inr h
/-- the heap has grown: what stands at fs (feeds that the frame owns) may have turned, as feeds -/
theorem AtO.grow {M' : List Addr} (I : AtO G B O0 M Lk O δ σ τ H) (g : Gr M' [] H H') (hf : ∀ f ∈ M', FeedAt H' f) (hM : ∀ f ∈ M', f ∈ O ∧ (f ∈ M ∨ B f = none) ∧ FeedAt H f) (hS : ∀ f ∈ M', ∀ (i : Nat) (o : OD), δ[i]? = some (some (.own o)) → σ[i]? = some (some (.ref f)) → o = .feed) (hP : ∀ f ∈ M', ∀ p ∈ Lk.2, p.1 ≠ f) (hN : Nf H H') (hI : ∀ f ∈ M', ∀ (i : Nat) (o : OD), δ[i]? = some (some (.own o)) → f ∉ innA o := by exact fun _ z => nomatch z) : AtO G B O0 M Lk O δ σ τ H' := by
  have l : Le (vis O H) (vis O H') := g.le fun a ha => (hM a ha).1
  have keepL : ∀ p xs, p ∉ M' → H p = some (.lst xs) → H' p = some (.lst xs) := fun p xs hp h => by
    rcases g p _ hp h with h | ⟨_, _, e, _⟩ | ⟨z, _⟩
    · exact h
    · cases e
    · cases z
  have keepD : ∀ p xs, p ∉ M' → H p = some (.dK xs) → H' p = some (.dK xs) := fun p xs hp h => by
    rcases g p _ hp h with h | ⟨_, _, e, _⟩ | ⟨z, _⟩
    · exact h
    · cases e
    · cases z
  have lv : ∀ p, H p ≠ none → H' p ≠ none := fun p h => by
    by_cases hp : p ∈ M'
    · obtain ⟨a, b, e⟩ := hf p hp
      rw [e]
      exact fun z => nomatch z
    · cases e : H p with
      | none => exact absurd e h
      | some o =>
        rcases g p o hp e with q | ⟨_, _, _, q, _⟩ | ⟨z, _⟩
        · rw [q]; exact fun z => nomatch z
        · rw [q]; exact fun z => nomatch z
        · cases z
  refine ⟨I.sub0, I.subM, I.o0, I.new, fun p hp => lv p (I.live p hp), I.gr.trans g fun a ha => (hM a ha).2.1, fun p hp => ?_, I.hidT, fun f hfM => ?_, fun P hP => ?_, fun p hp => (I.tmp p hp).mono l, I.len, fun i sl e => ?_, I.sep, fun p hp => ⟨(I.lck p hp).1, by
    rcases g p.1 _ (fun z => by
      obtain ⟨a, b, e⟩ := (hM p.1 z).2.2
      rw [(I.lck p hp).2] at e
      cases e) (I.lck p hp).2 with q | ⟨_, _, e, _⟩ | ⟨z, _⟩
    · exact q
    · cases e
    · cases z⟩, fun a od u e => (by
    cases h : H a with
    | none => exact absurd h (hN a od u e)
    | some o =>
      by_cases hm : a ∈ M'
      · obtain ⟨x, y, z⟩ := hf a hm
        rw [e] at z
        cases z
      · rcases g a o hm h with q | ⟨_, _, _, q, _⟩ | ⟨z, _⟩
        · rw [e] at q
          cases q
          exact I.nof a od u h
        · rw [e] at q
          cases q
        · cases z), I.inn⟩
  · obtain ⟨h1, h2, h3, h4⟩ := I.hid p hp
    refine ⟨?_, h2, h3, h4⟩
    rcases g p.1 _ (fun z => hP p.1 z p hp rfl) h1 with q | ⟨ps, _, e, _⟩ | ⟨z, _⟩
    · exact q
    · exact absurd e (I.hidT p hp ps)
    · cases z
  · by_cases hp : f ∈ M'
    · exact hf f hp
    · exact (I.feeds f hfM).gr g hp
  · refine TabG.gr g (fun z => ?_) (I.tabs P hP)
    obtain ⟨ps, e, _⟩ := I.tabs P hP
    obtain ⟨a, b, e2⟩ := (hM P z).2.2
    rw [e] at e2
    cases e2
  · obtain ⟨v, e1, h⟩ := I.slots i sl e
    refine ⟨v, e1, ?_⟩
    cases sl with
    | d d => exact Rp.mono l h
    | scr ns => obtain ⟨a, e2, h⟩ := h; exact ⟨a, e2, ex_seq l h⟩
    | own o =>
      obtain ⟨p, e2, hp, hb, hb2, h⟩ := h
      refine ⟨p, e2, hp, hb, hb2, ?_⟩
      by_cases hm : p ∈ M'
      · have eo : o = .feed := hS p hm i o e (by rw [e1, e2])
        subst eo
        exact hf p hm
      · exact h.le l (fun xs e => keepL p xs hm e) (fun xs e => keepD p xs hm e) (fun x hx xs e' => keepL x xs (fun z => hI x z i o e hx) e')

theorem At.grow0 (I : At G B O0 M Lk δ σ τ H) (g : Gr [] [] H H') (hN : Nf H H') : At G B O0 M Lk δ σ τ H' := by
  obtain ⟨O, I⟩ := I
  exact ⟨O, I.grow g (fun _ z => nomatch z) (fun _ z => nomatch z) (fun _ z => nomatch z) (fun _ z => nomatch z) hN⟩
theorem AtO.push (I : AtO G B O0 M Lk O δ σ τ H) {v : V} {d : D} (h : Rp (vis O H) v d) : AtO G B O0 M Lk O δ σ ((v, d) :: τ) H :=
  ⟨I.sub0, I.subM, I.o0, I.new, I.live, I.gr, I.hid, I.hidT, I.feeds, I.tabs, fun p hp => by
    rcases List.mem_cons.mp hp with e | hp
    · rw [e]; exact h
    · exact I.tmp p hp, I.len, I.slots, I.sep, I.lck, I.nof, I.inn⟩
theorem AtO.drops (I : AtO G B O0 M Lk O δ σ τ H) {τ' : List (V × D)} (h : ∀ p ∈ τ', p ∈ τ) : AtO G B O0 M Lk O δ σ τ' H :=
  ⟨I.sub0, I.subM, I.o0, I.new, I.live, I.gr, I.hid, I.hidT, I.feeds, I.tabs, fun p hp => I.tmp p (h p hp), I.len, I.slots, I.sep, I.lck, I.nof, I.inn⟩
theorem At.drops (I : At G B O0 M Lk δ σ τ H) {τ' : List (V × D)} (h : ∀ p ∈ τ', p ∈ τ) : At G B O0 M Lk δ σ τ' H := by
  obtain ⟨O, I⟩ := I
  exact ⟨O, I.drops h⟩
/-- a scalar -/
theorem At.pushS (I : At G B O0 M Lk δ σ τ H) {v : V} {d : D} (h : ∀ H, Rp H v d) : At G B O0 M Lk δ σ ((v, d) :: τ) H := by
  obtain ⟨O, I⟩ := I
  exact ⟨O, I.push (h _)⟩
/-- a new object is laid -/
theorem nf_upd {p : Addr} {o : HO} (ho : ∀ od u, o ≠ .frz od u) : Nf H (upd H p o) := fun a od u e => by
  by_cases h : a = p
  · rw [h, upd_same] at e
    exact absurd (Option.some.inj e) (ho od u)
  · rw [upd_ne h] at e
    rw [e]
    exact fun z => nomatch z
theorem AtO.alloc (I : AtO G B O0 M Lk O δ σ τ H) {p : Addr} {o : HO} (hp : H p = none) (ho : ∀ od u, o ≠ .frz od u := by exact fun _ _ z => nomatch z) : AtO G B O0 M Lk O δ σ τ (upd H p o) ∧ p ∉ O :=
  ⟨I.grow (M' := []) (fun a u _ e => .inl (by rw [upd_ne (ne_of_none e hp)]; exact e)) (fun _ z => nomatch z) (fun _ z => nomatch z) (fun _ z => nomatch z) (fun _ z => nomatch z) (nf_upd ho), fun z => I.live p z hp⟩

theorem rpA_of {ps : List (V × D)} (h : ∀ q ∈ ps, Rp H q.1 q.2) : RpA H (ps.map (·.1)) (ps.map (·.2)) := by
  induction ps with
  | nil => exact .nil
  | cons q r ih => exact .cons (h q List.mem_cons_self) (ih fun q hq => h q (List.mem_cons_of_mem _ hq))
theorem AtO.newTup (I : AtO G B O0 M Lk O δ σ τ H) {p : Addr} {xs : List V} {ds : List D} (h : RpA (vis O H) xs ds) (hp : H p = none) : AtO G B O0 M Lk O δ σ ((.ref p, .tuple ds) :: τ) (upd H p (.tup xs)) := by
  obtain ⟨J, hn⟩ := I.alloc (o := .tup xs) hp
  exact J.push (.tup (by rw [vis_out hn, upd_same]) (h.mono (le_new hp)))
theorem AtO.newLst (I : AtO G B O0 M Lk O δ σ τ H) {p : Addr} {xs : List V} {ds : List D} (h : RpA (vis O H) xs ds) (hp : H p = none) : AtO G B O0 M Lk O δ σ ((.ref p, .list ds) :: τ) (upd H p (.lst xs)) := by
  obtain ⟨J, hn⟩ := I.alloc (o := .lst xs) hp
  exact J.push (.lst (by rw [vis_out hn, upd_same]) (h.mono (le_new hp)))
theorem AtO.slot {i : Nat} {d : D} (I : AtO G B O0 M Lk O δ σ τ H) (h : δ[i]? = some (some (.d d))) : ∃ v, σ[i]? = some (some v) ∧ Rp (vis O H) v d := I.slots i _ h
end

/-! ### the judgements -/
structure semE (X : Cx) (e : Expr) (σ : L2.St) (H : Hp) (Q : VK) : Prop where
  run : ∀ pins s, Inv X pins σ H s → wpAny (model X.prog X.w) X.A (eval e X.env) (EP X pins σ Q) X.xe s
structure semT (X : Cx) (e : Expr) (σ : L2.St) (H : Hp) (Q : Bool → Hp → Prop) : Prop where
  run : ∀ pins s, Inv X pins σ H s → wpAny (model X.prog X.w) X.A (isTrue e X.env (eval e X.env)) (TP X pins σ Q) X.xe s
structure semW (X : Cx) (e : Expr) (σ : L2.St) (H : Hp) (Q : Bool → Hp → Prop) : Prop where
  run : ∀ (whole : Sem Value) pins s, Inv X pins σ H s → wpAny (model X.prog X.w) X.A (isTrue e X.env whole) (TP X pins σ Q) X.xe s
structure semA (X : Cx) (es : List Expr) (σ : L2.St) (H : Hp) (Q : List V → Hp → Prop) : Prop where
  run : ∀ (pos : Pos) pins s, Inv X pins σ H s → wpAny (model X.prog X.w) X.A (spliced (backTo pos (starEach es X.env))) (AP X pins σ Q) X.xe s
structure semS (X : Cx) (st : Stmt) (D : Ends) (σ : L2.St) (H : Hp) : Prop where
  run : ∀ pins s, Inv X pins σ H s → wpAny (model X.prog X.w) X.A (exec st X.env) (SP X pins D) X.xe s
structure semSs (X : Cx) (st : List Stmt) (D : Ends) (σ : L2.St) (H : Hp) : Prop where
  run : ∀ pins s, Inv X pins σ H s → wpAny (model X.prog X.w) X.A (execs st X.env) (SP X pins D) X.xe s
section
variable {X : Cx} {e : Expr} {es : List Expr} {st : Stmt} {sts : List Stmt} {te : TE} {tt : TT} {ta : TA} {ts : TS} {σ : L2.St} {H : Hp}
theorem pe_sem : PE X e (semE X e) := ⟨fun pins s _ _ _ I h => h.run pins s I⟩
theorem pt_sem : PT X e (semT X e) := ⟨fun pins s _ _ _ I h => h.run pins s I⟩
theorem pw_sem : PW X e (semW X e) := ⟨fun wh pins s _ _ _ I h => h.run wh pins s I⟩
theorem pa_sem : PA X es (semA X es) := ⟨fun pos pins s _ _ _ I h => h.run pos pins s I⟩
theorem ps_sem : PS X st (semS X st) := ⟨fun pins s _ _ _ I h => h.run pins s I⟩
theorem pss_sem : PSs X sts (semSs X sts) := ⟨fun pins s _ _ _ I h => h.run pins s I⟩
theorem sem_e {Q : VK} (h : PE X e te) (q : te σ H Q) : semE X e σ H Q := ⟨fun pins s I => h.run pins s σ H Q I q⟩
theorem sem_t {Q : Bool → Hp → Prop} (h : PT X e tt) (q : tt σ H Q) : semT X e σ H Q := ⟨fun pins s I => h.run pins s σ H Q I q⟩
theorem sem_w {Q : Bool → Hp → Prop} (h : PW X e tt) (q : tt σ H Q) : semW X e σ H Q := ⟨fun wh pins s I => h.run wh pins s σ H Q I q⟩
theorem sem_a {Q : List V → Hp → Prop} (h : PA X es ta) (q : ta σ H Q) : semA X es σ H Q := ⟨fun pos pins s I => h.run pos pins s σ H Q I q⟩
theorem sem_s {D : Ends} (h : PS X st ts) (q : ts D σ H) : semS X st D σ H := ⟨fun pins s I => h.run pins s σ H D I q⟩
theorem sem_ss {D : Ends} (h : PSs X sts ts) (q : ts D σ H) : semSs X sts D σ H := ⟨fun pins s I => h.run pins s σ H D I q⟩
end

section
variable (X : Cx) (Tb : List Addr)
abbrev GX : Glo := ⟨X.K, Tb⟩
def wpE (e : Expr) (δ : Dl) (P : D → Prop) : Prop := ∀ B O0 M Lk σ τ H, At (GX X Tb) B O0 M Lk δ σ τ H → ∀ Q : VK, (∀ v d H', At (GX X Tb) B O0 M Lk δ σ ((v, d) :: τ) H' → P d → Q v H') → semE X e σ H Q
def wpT (e : Expr) (δ : Dl) (P : Bool → Prop) : Prop := ∀ B O0 M Lk σ τ H, At (GX X Tb) B O0 M Lk δ σ τ H → ∀ Q : Bool → Hp → Prop, (∀ b H', At (GX X Tb) B O0 M Lk δ σ τ H' → P b → Q b H') → semT X e σ H Q
def wpW (e : Expr) (δ : Dl) (P : Bool → Prop) : Prop := ∀ B O0 M Lk σ τ H, At (GX X Tb) B O0 M Lk δ σ τ H → ∀ Q : Bool → Hp → Prop, (∀ b H', At (GX X Tb) B O0 M Lk δ σ τ H' → P b → Q b H') → semW X e σ H Q
def wpA (es : List Expr) (δ : Dl) (P : List D → Prop) : Prop := ∀ B O0 M Lk σ τ H, At (GX X Tb) B O0 M Lk δ σ τ H → ∀ Q : List V → Hp → Prop,
  (∀ ps H', At (GX X Tb) B O0 M Lk δ σ (ps ++ τ) H' → P (ps.map (·.2)) → Q (ps.map (·.1)) H') → semA X es σ H Q
/-- an operation on two values, as data -/
def Ok2 (r : R2) (R : D → D → (D → Prop) → Prop) : Prop := ∀ {B O0 M Lk O δ σ τ H x y d1 d2 P}, AtO (GX X Tb) B O0 M Lk O δ σ τ H → Rp (vis O H) x d1 → Rp (vis O H) y d2 → R d1 d2 P → ∀ Q : VK,
  (∀ v d H', At (GX X Tb) B O0 M Lk δ σ ((v, d) :: τ) H' → P d → Q v H') → r x y H Q
/-- a call on values, as data -/
def OkC (r : List V → Hp → VK → Prop) (R : List D → (D → Prop) → Prop) : Prop := ∀ {B O0 M Lk O δ σ τ H vs ds P}, AtO (GX X Tb) B O0 M Lk O δ σ τ H → RpA (vis O H) vs ds → R ds P → ∀ Q : VK,
  (∀ v d H', At (GX X Tb) B O0 M Lk δ σ ((v, d) :: τ) H' → P d → Q v H') → r vs H Q
end

section
variable {X : Cx} {Tb : List Addr} {δ : Dl} {a b c e : Expr} {es : List Expr} {pos pos' : Pos} {P P' : D → Prop}
theorem wpE_mono (h : wpE X Tb e δ P) (hp : ∀ d, P d → P' d) : wpE X Tb e δ P' := fun B O0 M Lk σ τ H I Q q => h B O0 M Lk σ τ H I Q fun v d H' J p => q v d H' J (hp d p)
theorem wpT_mono {P P' : Bool → Prop} (h : wpT X Tb e δ P) (hp : ∀ d, P d → P' d) : wpT X Tb e δ P' := fun B O0 M Lk σ τ H I Q q => h B O0 M Lk σ τ H I Q fun d H' J p => q d H' J (hp d p)
theorem wpE_int {i j} (h : P (.int i)) : wpE X Tb (.Constant (.int i) j pos) δ P := fun _ _ _ _ _ _ H I Q q => sem_e pe_int (q _ _ H (I.pushS fun _ => .int i) h)
theorem wpE_bool {i j} (h : P (.bool i)) : wpE X Tb (.Constant (.bool i) j pos) δ P := fun _ _ _ _ _ _ H I Q q => sem_e pe_bl (q _ _ H (I.pushS fun _ => .bl i) h)
theorem wpE_none {j} (h : P .none) : wpE X Tb (.Constant .none j pos) δ P := fun _ _ _ _ _ _ H I Q q => sem_e pe_non (q _ _ H (I.pushS fun _ => .non) h)
theorem wpE_str {x j} (h : P (.str x)) : wpE X Tb (.Constant (.str x) j pos) δ P := fun _ _ _ _ _ _ H I Q q => sem_e pe_str (q _ _ H (I.pushS fun _ => .str x) h)
theorem wpE_var {x : Str} (i : Nat) {d : D} (hd : δ[i]? = some (some (.d d))) (h : P d) (hN : X.N[i]? = some x := by rfl)
    (hv : Vis X.env.scope x := by first | exact Or.inl rfl | exact Or.inr (Or.inl rfl) | exact Or.inr (Or.inr rfl)) (h1 : (x == ("__debug__" : Str)) = false := by decide) (h2 : (x == ("__classdict__" : Str)) = false := by decide) : wpE X Tb (.Name x pos) δ P := fun _ _ _ _ _ _ H I Q q => by
  obtain ⟨O, I⟩ := I
  obtain ⟨v, e1, r⟩ := I.slot hd
  exact sem_e (pe_var hN hv h1 h2) ⟨v, e1, q v d H ⟨O, I.push r⟩ h⟩
/-- a module's int, text -/
theorem wpE_globI {x : Str} {i : Int} {t : Tok} (hm : X.mg x = some (.int i t)) (h : P (.int i)) (hg : Gl X x := by rfl) (hd : (x == ("__debug__" : Str)) = false := by decide) : wpE X Tb (.Name x pos) δ P := fun _ _ _ _ _ _ H I Q q =>
  sem_e (pe_glob (v := .int i) hg hm ⟨t, rfl⟩ hd) (q _ _ H (I.pushS fun _ => .int i) h)
theorem wpE_globS {x y : Str} {t : Tok} (hm : X.mg x = some (.str y t)) (h : P (.str y)) (hg : Gl X x := by rfl) (hd : (x == ("__debug__" : Str)) = false := by decide) : wpE X Tb (.Name x pos) δ P := fun _ _ _ _ _ _ H I Q q =>
  sem_e (pe_glob (v := .str y) hg hm ⟨t, rfl⟩ hd) (q _ _ H (I.pushS fun _ => .str y) h)

theorem AtO.pop2 {G : Glo} {B : Hp} {O0 M O : List Addr} {Lk : Lks} {σ : L2.St} {τ : List (V × D)} {H : Hp} {p q : V × D} (I : AtO G B O0 M Lk O δ σ (p :: q :: τ) H) : AtO G B O0 M Lk O δ σ τ H ∧ Rp (vis O H) q.1 q.2 ∧ Rp (vis O H) p.1 p.2 :=
  ⟨I.drops fun x hx => by simp [hx], I.tmp q (by simp), I.tmp p (by simp)⟩
theorem AtO.pop1 {G : Glo} {B : Hp} {O0 M O : List Addr} {Lk : Lks} {σ : L2.St} {τ : List (V × D)} {H : Hp} {p : V × D} (I : AtO G B O0 M Lk O δ σ (p :: τ) H) : AtO G B O0 M Lk O δ σ τ H ∧ Rp (vis O H) p.1 p.2 :=
  ⟨I.drops fun x hx => by simp [hx], I.tmp p (by simp)⟩
theorem wpE_bin {op : Operator} {r : R2} {R : D → D → (D → Prop) → Prop} (ho : OpR X (binaryOp op) r) (hr : Ok2 X Tb r R) (h : wpE X Tb a δ fun d1 => wpE X Tb b δ fun d2 => R d1 d2 P) : wpE X Tb (.BinOp a op b pos) δ P := fun B O0 M Lk σ τ H I Q q =>
  sem_e (pe_op ho pe_sem pe_sem) (h B O0 M Lk σ τ H I _ fun x d1 H1 I1 h1 => h1 B O0 M Lk σ _ H1 I1 _ fun y d2 H2 I2 h2 => by
    obtain ⟨O, J⟩ := I2
    obtain ⟨J0, rx, ry⟩ := J.pop2
    exact hr J0 rx ry h2 Q q)
theorem wpE_cmp {op : CmpOp} {r : R2} {R : D → D → (D → Prop) → Prop} (ho : OpR X (compareOp op) r) (hr : Ok2 X Tb r R) (hm : behindInMarks op b = false) (h : wpE X Tb a δ fun d1 => wpE X Tb b δ fun d2 => R d1 d2 P) : wpE X Tb (.Compare a [op] [b] pos) δ P := fun B O0 M Lk σ τ H I Q q =>
  sem_e (pe_cmpR ho pe_sem pe_sem hm) (h B O0 M Lk σ τ H I _ fun x d1 H1 I1 h1 => h1 B O0 M Lk σ _ H1 I1 _ fun y d2 H2 I2 h2 => by
    obtain ⟨O, J⟩ := I2
    obtain ⟨J0, rx, ry⟩ := J.pop2
    exact hr J0 rx ry h2 Q q)
theorem wpT_cmp {op : CmpOp} {r : R2} {R : D → D → (D → Prop) → Prop} {P : Bool → Prop} (ho : OpR X (compareOp op) r) (hr : Ok2 X Tb r R) (hm : behindInMarks op b = false) (h : wpE X Tb a δ fun d1 => wpE X Tb b δ fun d2 => R d1 d2 fun d => ∃ k, d = .bool k ∧ P k) : wpT X Tb (.Compare a [op] [b] pos) δ P := fun B O0 M Lk σ τ H I Q q =>
  sem_t (pt_cmpR ho pe_sem pe_sem hm) (h B O0 M Lk σ τ H I _ fun x d1 H1 I1 h1 => h1 B O0 M Lk σ _ H1 I1 _ fun y d2 H2 I2 h2 => by
    obtain ⟨O, J⟩ := I2
    obtain ⟨J0, rx, ry⟩ := J.pop2
    refine hr J0 rx ry h2 _ fun v d H' J' h3 => ?_
    obtain ⟨k, rfl, h3⟩ := h3
    obtain ⟨O', J'⟩ := J'
    obtain ⟨J1, rk⟩ := J'.pop1
    cases rk
    exact ⟨k, rfl, q k H' ⟨O', J1⟩ h3⟩)
/-- a bool's expression, as a test -/
theorem wpT_val {P : Bool → Prop} (h : wpE X Tb e δ fun d => ∃ k, d = .bool k ∧ P k) (he : ∀ whole, isTrue e X.env whole = (do let v ← whole; standAt e.pos; holding [v] (truthy v)) := by intro _; rfl) : wpT X Tb e δ P := fun B O0 M Lk σ τ H I Q q =>
  sem_t (pt_val pe_sem he) (h B O0 M Lk σ τ H I _ fun v d H' J' h3 => by
    obtain ⟨k, rfl, h3⟩ := h3
    obtain ⟨O', J'⟩ := J'
    obtain ⟨J1, rk⟩ := J'.pop1
    cases rk
    exact ⟨k, rfl, q k H' ⟨O', J1⟩ h3⟩)
theorem wpT_not {P : Bool → Prop} (h : wpT X Tb a δ fun k => P (!k)) : wpT X Tb (.UnaryOp .Not a pos) δ P := fun B O0 M Lk σ τ H I Q q =>
  sem_t (pt_not pt_sem) (h B O0 M Lk σ τ H I _ fun k H' J h3 => q (!k) H' J h3)
theorem wpT_W {P : Bool → Prop} (h : wpW X Tb e δ P) : wpT X Tb e δ P := fun B O0 M Lk σ τ H I Q q => ⟨(h B O0 M Lk σ τ H I Q q).run _⟩
theorem wpW_and1 {P : Bool → Prop} (h : wpT X Tb a δ P) : wpW X Tb (.BoolOp .And [a] pos) δ P := fun B O0 M Lk σ τ H I Q q =>
  sem_w (pw_and1 pt_sem) (h B O0 M Lk σ τ H I _ q)
theorem wpW_or1 {P : Bool → Prop} (h : wpT X Tb a δ P) : wpW X Tb (.BoolOp .Or [a] pos) δ P := fun B O0 M Lk σ τ H I Q q =>
  sem_w (pw_or1 pt_sem) (h B O0 M Lk σ τ H I _ q)
theorem wpW_and {P : Bool → Prop} (h : wpT X Tb a δ fun k => if k = true then wpW X Tb (.BoolOp .And (b :: es) pos) δ P else P false) : wpW X Tb (.BoolOp .And (a :: b :: es) pos) δ P := fun B O0 M Lk σ τ H I Q q =>
  sem_w (pw_and pt_sem pw_sem) (h B O0 M Lk σ τ H I _ fun k H' J h3 => by
    cases k with
    | true => exact h3 B O0 M Lk σ τ H' J Q q
    | false => exact q false H' J h3)
theorem wpW_or {P : Bool → Prop} (h : wpT X Tb a δ fun k => if k = true then P true else wpW X Tb (.BoolOp .Or (b :: es) pos) δ P) : wpW X Tb (.BoolOp .Or (a :: b :: es) pos) δ P := fun B O0 M Lk σ τ H I Q q =>
  sem_w (pw_or pt_sem pw_sem) (h B O0 M Lk σ τ H I _ fun k H' J h3 => by
    cases k with
    | true => exact q true H' J h3
    | false => exact h3 B O0 M Lk σ τ H' J Q q)
/-- and, or, not of bools, as values -/
theorem wpE_one {op} (h : wpE X Tb a δ P) : wpE X Tb (.BoolOp op [a] pos) δ P := fun B O0 M Lk σ τ H I Q q => sem_e (pe_one pe_sem) (h B O0 M Lk σ τ H I Q q)
theorem At.pop {G : Glo} {B : Hp} {O0 M : List Addr} {Lk : Lks} {σ : L2.St} {τ : List (V × D)} {H : Hp} {p : V × D} (I : At G B O0 M Lk δ σ (p :: τ) H) : At G B O0 M Lk δ σ τ H := I.drops fun x hx => by simp [hx]
theorem wpE_and (h : wpE X Tb a δ fun d => ∃ k, d = .bool k ∧ if k = true then wpE X Tb (.BoolOp .And (b :: es) pos) δ P else P (.bool false)) : wpE X Tb (.BoolOp .And (a :: b :: es) pos) δ P := fun B O0 M Lk σ τ H I Q q =>
  sem_e (pe_and pe_sem pe_sem) (h B O0 M Lk σ τ H I _ fun v d H' J h3 => by
    obtain ⟨k, rfl, h3⟩ := h3
    obtain ⟨O', J'⟩ := J
    obtain ⟨J1, rk⟩ := J'.pop1
    cases rk
    refine ⟨k, rfl, ?_⟩
    cases k with
    | true => exact h3 B O0 M Lk σ τ H' ⟨O', J1⟩ Q q
    | false => exact q _ _ H' ⟨O', J'⟩ h3)
theorem wpE_or (h : wpE X Tb a δ fun d => ∃ k, d = .bool k ∧ if k = true then P (.bool true) else wpE X Tb (.BoolOp .Or (b :: es) pos) δ P) : wpE X Tb (.BoolOp .Or (a :: b :: es) pos) δ P := fun B O0 M Lk σ τ H I Q q =>
  sem_e (pe_or pe_sem pe_sem) (h B O0 M Lk σ τ H I _ fun v d H' J h3 => by
    obtain ⟨k, rfl, h3⟩ := h3
    obtain ⟨O', J'⟩ := J
    obtain ⟨J1, rk⟩ := J'.pop1
    cases rk
    refine ⟨k, rfl, ?_⟩
    cases k with
    | true => exact q _ _ H' ⟨O', J'⟩ h3
    | false => exact h3 B O0 M Lk σ τ H' ⟨O', J1⟩ Q q)
theorem wpE_not (h : wpE X Tb a δ fun d => ∃ k, d = .bool k ∧ P (.bool (!k))) : wpE X Tb (.UnaryOp .Not a pos) δ P := fun B O0 M Lk σ τ H I Q q =>
  sem_e (pe_not pe_sem) (h B O0 M Lk σ τ H I _ fun v d H' J h3 => by
    obtain ⟨k, rfl, h3⟩ := h3
    obtain ⟨O', J'⟩ := J
    obtain ⟨J1, rk⟩ := J'.pop1
    cases rk
    exact ⟨k, rfl, q _ _ H' ⟨O', J1.push (.bl _)⟩ h3⟩)
theorem wpE_ifExp (h : wpT X Tb c δ fun k => if k = true then wpE X Tb a δ P else wpE X Tb b δ P) : wpE X Tb (.IfExp c a b pos) δ P := fun B O0 M Lk σ τ H I Q q =>
  sem_e (pe_ifExp pt_sem pe_sem pe_sem) (h B O0 M Lk σ τ H I _ fun k H' J h3 => by
    cases k with
    | true => exact h3 B O0 M Lk σ τ H' J Q q
    | false => exact h3 B O0 M Lk σ τ H' J Q q)
/-- arguments -/
theorem wpA_nil {P : List D → Prop} (h : P []) : wpA X Tb [] δ P := fun B O0 M Lk σ τ H I Q q => sem_a pa_nil (q [] H I h)
theorem wpA_cons {P : List D → Prop} (h : wpE X Tb e δ fun d => wpA X Tb es δ fun ds => P (d :: ds)) (hs : starEach (e :: es) X.env = (false, eval e X.env) :: starEach es X.env := by rfl) : wpA X Tb (e :: es) δ P := fun B O0 M Lk σ τ H I Q q =>
  sem_a (pa_cons pe_sem pa_sem hs) (h B O0 M Lk σ τ H I _ fun v d H' J h3 => h3 B O0 M Lk σ _ H' J _ fun ps H2 J2 h4 => q ((v, d) :: ps) H2 (J2.drops fun p hp => by
    simp only [List.cons_append, List.mem_cons, List.mem_append] at hp ⊢
    rcases hp with e | e | e
    · exact .inr (.inl e)
    · exact .inl e
    · exact .inr (.inr e)) h4)
theorem AtO.popA {G : Glo} {B : Hp} {O0 M O : List Addr} {Lk : Lks} {σ : L2.St} {τ ps : List (V × D)} {H : Hp} (I : AtO G B O0 M Lk O δ σ (ps ++ τ) H) : AtO G B O0 M Lk O δ σ τ H ∧ RpA (vis O H) (ps.map (·.1)) (ps.map (·.2)) :=
  ⟨I.drops fun x hx => List.mem_append.mpr (.inr hx), rpA_of fun q hq => I.tmp q (List.mem_append.mpr (.inl hq))⟩
theorem wpE_tup {k} (h : wpA X Tb es δ fun ds => ds.length ≤ sizeLine ∧ P (.tuple ds)) : wpE X Tb (.Tuple es k pos) δ P := fun B O0 M Lk σ τ H I Q q =>
  sem_e (pe_tup pa_sem) (h B O0 M Lk σ τ H I _ fun ps H' J h3 => by
    obtain ⟨O, J⟩ := J
    obtain ⟨J0, r⟩ := J.popA
    exact ⟨by rw [r.length]; exact h3.1, fun p hp => q _ _ _ ⟨O, J0.newTup r hp⟩ h3.2⟩)
theorem wpE_lst (h : wpA X Tb es δ fun ds => ds.length ≤ sizeLine ∧ P (.list ds)) : wpE X Tb (.List es pos) δ P := fun B O0 M Lk σ τ H I Q q =>
  sem_e (pe_lst pa_sem) (h B O0 M Lk σ τ H I _ fun ps H' J h3 => by
    obtain ⟨O, J⟩ := J
    obtain ⟨J0, r⟩ := J.popA
    exact ⟨by rw [r.length]; exact h3.1, fun p hp => q _ _ _ ⟨O, J0.newLst r hp⟩ h3.2⟩)
/-- calls of built-ins -/
theorem wpE_callB {x : Str} {idS : String} {r : List V → Hp → VK → Prop} {R : List D → (D → Prop) → Prop} {p : Pos} (hc : CallR X (.builtin idS) r) (hr : OkC X Tb r R) (hm : X.mg x = none) (hv : bootBuiltins x = some (.builtin idS)) (h : wpA X Tb (e :: es) δ fun ds => R ds P)
    (hg : Gl X x := by rfl) (hn : x ≠ "__name__" := by decide) (hdb : (x == ("__debug__" : Str)) = false := by decide)
    (he : starEach (e :: es) X.env = (false, eval e X.env) :: starEach es X.env := by rfl) (hpl : (backTo pos (starEach es X.env)).any (·.1) = false := by rfl) : wpE X Tb (.Call (.Name x p) (e :: es) [] pos) δ P := fun B O0 M Lk σ τ H I Q q =>
  sem_e (pe_callB hc hg hm hv pa_sem hn hdb he hpl) (h B O0 M Lk σ τ H I _ fun ps H' J h3 => by
    obtain ⟨O, J⟩ := J
    obtain ⟨J0, rr⟩ := J.popA
    exact hr J0 rr h3 Q q)
theorem wpE_callTy {x : Str} {T : String} {r : List V → Hp → VK → Prop} {R : List D → (D → Prop) → Prop} {p : Pos} (hc : CallR X (.type T) r) (hr : OkC X Tb r R) (hm : X.mg x = none) (hv : bootBuiltins x = some (.type T)) (h : wpA X Tb (e :: es) δ fun ds => R ds P)
    (hg : Gl X x := by rfl) (hn : x ≠ "__name__" := by decide) (hdb : (x == ("__debug__" : Str)) = false := by decide)
    (he : starEach (e :: es) X.env = (false, eval e X.env) :: starEach es X.env := by rfl) (hpl : (backTo pos (starEach es X.env)).any (·.1) = false := by rfl) : wpE X Tb (.Call (.Name x p) (e :: es) [] pos) δ P := fun B O0 M Lk σ τ H I Q q =>
  sem_e (pe_callTy hc hg hm hv pa_sem hn hdb he hpl) (h B O0 M Lk σ τ H I _ fun ps H' J h3 => by
    obtain ⟨O, J⟩ := J
    obtain ⟨J0, rr⟩ := J.popA
    exact hr J0 rr h3 Q q)
end
end DL

set_option Elab.async false
set_option linter.all false
set_option maxRecDepth 100000
set_option maxHeartbeats 2000000
/-! DL2: operators, items, calls by name. -/
namespace DL
open PySem PySem.Spec L2

/-! ### inversion -/
section
variable {H : Hp} {v : V}
theorem Rp.int' {i : Int} (h : Rp H v (.int i)) : v = .int i := by cases h; rfl
theorem Rp.str' {x : Str} (h : Rp H v (.str x)) : v = .str x := by cases h; rfl
theorem Rp.bool' {x : Bool} (h : Rp H v (.bool x)) : v = .bl x := by cases h; rfl
theorem Rp.none' (h : Rp H v .none) : v = .non := by cases h; rfl
theorem Rp.list' {ds : List D} (h : Rp H v (.list ds)) : ∃ a xs, v = .ref a ∧ H a = some (.lst xs) ∧ RpA H xs ds := by
  cases h with | lst h r => exact ⟨_, _, rfl, h, r⟩
theorem Rp.tuple' {ds : List D} (h : Rp H v (.tuple ds)) : ∃ a xs, v = .ref a ∧ H a = some (.tup xs) ∧ RpA H xs ds := by
  cases h with | tup h r => exact ⟨_, _, rfl, h, r⟩
theorem Rp.dict' {ds : List (D × D)} (h : Rp H v (.dict ds)) (hm : isM ds = false) : ∃ a kvs, v = .ref a ∧ Rd H a (.dK kvs) ∧ (kvs.map (·.1)).Nodup ∧ RpK H kvs ds := by
  cases h with
  | dic h n r => exact ⟨_, _, rfl, h, n, r⟩
  | ins h n r => rw [isM_ins] at hm; cases hm
theorem RpK.keyed : ∀ {kvs : List (Key × V)} {ds : List (D × D)}, RpK H kvs ds → ∀ p ∈ ds, p.1 ≠ .none
  | _, _, .nil => fun _ z => nomatch z
  | _, _, .cons (k := k) _ r => fun p hp e => by
    rcases List.mem_cons.mp hp with rfl | hp
    · cases k <;> cases e
    · exact RpK.keyed r p hp e
theorem strs_inj : ∀ {xs ys : List Str}, xs.map PyData.str = ys.map PyData.str → xs = ys
  | [], [], _ => rfl
  | [], _ :: _, h => nomatch h
  | _ :: _, [], h => nomatch h
  | x :: xs, y :: ys, h => by
    rw [List.map_cons, List.map_cons, List.cons.injEq] at h
    rw [PyData.str.inj h.1, strs_inj h.2]
theorem Rp.ins' {C : Addr} {ns : List Str} {ds : List D} (h : Rp H v (insD C ns ds)) : ∃ a dx vs, v = .ref a ∧ H a = some (.ins C dx (ns.zip vs)) ∧ ns.length = vs.length ∧ RpA H vs ds := by
  have key : ∀ e : D, e = insD C ns ds → Rp H v e → ∃ a dx vs, v = .ref a ∧ H a = some (.ins C dx (ns.zip vs)) ∧ ns.length = vs.length ∧ RpA H vs ds := by
    intro e ee he
    cases he with
    | dic h1 n1 r1 =>
      unfold insD at ee
      rw [PyData.dict.injEq] at ee
      rw [ee] at r1
      exact absurd rfl (r1.keyed _ List.mem_cons_self)
    | ins h1 n1 r1 =>
      unfold insD at ee
      simp only [PyData.dict.injEq, List.cons.injEq, Prod.mk.injEq, PyData.int.injEq, PyData.list.injEq, true_and, and_true, Int.ofNat_inj] at ee
      obtain ⟨e1, e2, e3⟩ := ee
      have e4 := strs_inj e2
      subst e1 e3 e4
      exact ⟨_, _, _, rfl, h1, n1, r1⟩
    | _ => cases ee
  exact key _ rfl h
theorem RpA.one' {vs : List V} {d : D} (h : RpA H vs [d]) : ∃ v, vs = [v] ∧ Rp H v d := by
  cases h with | cons h r => cases r with | nil => exact ⟨_, rfl, h⟩
theorem RpA.two' {vs : List V} {d e : D} (h : RpA H vs [d, e]) : ∃ v u, vs = [v, u] ∧ Rp H v d ∧ Rp H u e := by
  cases h with | cons h r => cases r with | cons h2 r => cases r with | nil => exact ⟨_, _, rfl, h, h2⟩
end
mutual
/-- no dict within -/
def nd : D → Bool
  | .list ds => ndA ds
  | .tuple ds => ndA ds
  | .dict _ => false
  | _ => true
def ndA : List D → Bool
  | [] => true
  | d :: ds => nd d && ndA ds
end
mutual
theorem Rp.dp {K : PySem.W.Frag} {O : List Addr} {H : Hp} : ∀ {v : V} {d : D}, Rp (vis O H) v d → nd d = true → Dp K H v d
  | _, _, .non, _ => .non
  | _, _, .bl b, _ => .bl b
  | _, _, .int b, _ => .int b
  | _, _, .str b, _ => .str b
  | _, _, .lst h r, n => .lst (SqL.of (vis_some h).2) (RpA.dp r n)
  | _, _, .tup h r, n => .tup (SqT.of (vis_some h).2) (RpA.dp r n)
  | _, _, .dic _ _ _, n => nomatch n
  | _, _, .ins _ _ _, n => nomatch n
theorem RpA.dp {K : PySem.W.Frag} {O : List Addr} {H : Hp} : ∀ {v : List V} {d : List D}, RpA (vis O H) v d → ndA d = true → DpAll K H v d
  | _, _, .nil, _ => .nil
  | _, _, .cons h r, n => by
    unfold ndA at n
    rw [Bool.and_eq_true] at n
    exact .cons (Rp.dp h n.1) (RpA.dp r n.2)
end

/-! ### what operators do with data -/
def addR : D → D → (D → Prop) → Prop
  | .int i, .int j, P => P (.int (i + j))
  | .str x, .str y, P => x.length + y.length ≤ sizeLine ∧ P (.str (x ++ y))
  | .list xs, .list ys, P => xs.length + ys.length ≤ sizeLine ∧ P (.list (xs ++ ys))
  | .tuple xs, .tuple ys, P => (xs ≠ [] ∧ xs.length + ys.length ≤ sizeLine) ∧ P (.tuple (xs ++ ys))
  | _, _, _ => False
def subR : D → D → (D → Prop) → Prop
  | .int i, .int j, P => P (.int (i - j))
  | _, _, _ => False
def mulR : D → D → (D → Prop) → Prop
  | .int i, .int j, P => CMul i j ∧ P (.int (i * j))
  | .list xs, .int k, P => (-(2 ^ 63) ≤ k ∧ k < 2 ^ 63 ∧ xs.length * k.toNat ≤ sizeLine) ∧ P (.list (List.replicate k.toNat xs).flatten)
  | _, _, _ => False
def modR : D → D → (D → Prop) → Prop
  | .int i, .int j, P => 0 < j ∧ P (.int (i % j))
  | _, _, _ => False
def fdivR : D → D → (D → Prop) → Prop
  | .int i, .int j, P => CDiv i j ∧ P (.int (i / j))
  | _, _, _ => False
def powR : D → D → (D → Prop) → Prop
  | .int i, .int j, P => CPow i j ∧ P (.int (i ^ j.toNat))
  | _, _, _ => False
def ltR (f : Int → Int → Bool) : D → D → (D → Prop) → Prop
  | .int i, .int j, P => P (.bool (f i j))
  | _, _, _ => False
def eqR (f : Bool → Bool) : D → D → (D → Prop) → Prop
  | .int i, .int j, P => P (.bool (f (decide (i = j))))
  | .str i, .str j, P => P (.bool (f (decide (i = j))))
  | .bool i, .bool j, P => P (.bool (f (decide (i = j))))
  | .none, .none, P => P (.bool (f true))
  | .none, .str _, P => P (.bool (f false))
  | .str _, .none, P => P (.bool (f false))
  | .none, .int _, P => P (.bool (f false))
  | .int _, .none, P => P (.bool (f false))
  | .int _, .str _, P => P (.bool (f false))
  | .str _, .int _, P => P (.bool (f false))
  | d, e, P => (nd d = true ∧ nd e = true ∧ SeqAt.shaped d = true ∧ SeqAt.shaped e = true) ∧ P (.bool (f (PyData.eqv d e)))
def isR (f : Bool → Bool) : D → D → (D → Prop) → Prop
  | .none, .none, P => P (.bool (f true))
  | _, .none, P => P (.bool (f false))
  | _, _, _ => False

section
variable {X : Cx} {Tb : List Addr}
theorem ok_int2 {r : R2} {C : Int → Int → Prop} {g : Int → Int → V} {g' : Int → Int → D} (hg : ∀ i j H, Rp H (g i j) (g' i j)) {i j : Int} {P : D → Prop} {B : Hp} {O0 M O : List Addr} {Lk : Lks} {δ : Dl} {σ : L2.St} {τ : List (V × D)} {H : Hp}
    (I : AtO (GX X Tb) B O0 M Lk O δ σ τ H) {Q : VK} (q : ∀ v d H', At (GX X Tb) B O0 M Lk δ σ ((v, d) :: τ) H' → P d → Q v H') (p : P (g' i j)) : Q (g i j) H := q _ _ H ⟨O, I.push (hg i j _)⟩ p
theorem op_addD : OpR X (binaryOp .Add) (fun x y H Q => (∃ i j, x = .int i ∧ y = .int j ∧ Q (.int (i + j)) H) ∨ (∃ i j, x = .str i ∧ y = .str j ∧ i.length + j.length ≤ sizeLine ∧ Q (.str (i ++ j)) H) ∨ rCat x y H Q ∨ rCatT X.K x y H Q) :=
  OpR.or op_add (OpR.or op_add_str (OpR.or op_cat op_catT))
theorem ok_add : Ok2 X Tb (fun x y H Q => (∃ i j, x = .int i ∧ y = .int j ∧ Q (.int (i + j)) H) ∨ (∃ i j, x = .str i ∧ y = .str j ∧ i.length + j.length ≤ sizeLine ∧ Q (.str (i ++ j)) H) ∨ rCat x y H Q ∨ rCatT X.K x y H Q) addR := by
  intro B O0 M Lk O δ σ τ H x y d1 d2 P I rx ry h Q q
  unfold addR at h
  split at h
  · rw [rx.int', ry.int']
    exact .inl ⟨_, _, rfl, rfl, q _ _ H ⟨O, I.push (.int _)⟩ h⟩
  · rw [rx.str', ry.str']
    exact .inr (.inl ⟨_, _, rfl, rfl, h.1, q _ _ H ⟨O, I.push (.str _)⟩ h.2⟩)
  · obtain ⟨a, xs, rfl, ha, ra⟩ := rx.list'
    obtain ⟨b, ys, rfl, hb, rb⟩ := ry.list'
    exact .inr (.inr (.inl ⟨a, b, xs, ys, rfl, rfl, (vis_some ha).2, (vis_some hb).2, by rw [ra.length, rb.length]; exact h.1, fun p hp => q _ _ _ ⟨O, I.newLst (ra.append rb) hp⟩ h.2⟩))
  · obtain ⟨a, xs, rfl, ha, ra⟩ := rx.tuple'
    obtain ⟨b, ys, rfl, hb, rb⟩ := ry.tuple'
    refine .inr (.inr (.inr ⟨a, b, xs, ys, rfl, rfl, SqT.of (vis_some ha).2, SqT.of (vis_some hb).2, fun e => h.1.1 ?_, by rw [ra.length, rb.length]; exact h.1.2, fun e => ?_, fun e p hp => q _ _ _ ⟨O, I.newTup (ra.append rb) hp⟩ h.2⟩))
    · subst e
      cases ra
      rfl
    · subst e
      cases rb
      refine q _ _ H ⟨O, I.push (.tup ha ?_)⟩ h.2
      rw [List.append_nil]
      exact ra
  · exact h.elim
theorem ok_sub : Ok2 X Tb (rI0 fun i j => .int (i - j)) subR := by
  intro B O0 M Lk O δ σ τ H x y d1 d2 P I rx ry h Q q
  unfold subR at h
  split at h
  · rw [rx.int', ry.int']
    exact ⟨_, _, rfl, rfl, q _ _ H ⟨O, I.push (.int _)⟩ h⟩
  · exact h.elim
theorem op_mulD : OpR X (binaryOp .Mult) (fun x y H Q => rI CMul (fun i j => .int (i * j)) x y H Q ∨ rRep x y H Q) := OpR.or op_mul op_rep
theorem ok_mul : Ok2 X Tb (fun x y H Q => rI CMul (fun i j => .int (i * j)) x y H Q ∨ rRep x y H Q) mulR := by
  intro B O0 M Lk O δ σ τ H x y d1 d2 P I rx ry h Q q
  unfold mulR at h
  split at h
  · rw [rx.int', ry.int']
    exact .inl ⟨_, _, rfl, rfl, h.1, q _ _ H ⟨O, I.push (.int _)⟩ h.2⟩
  · obtain ⟨a, xs, rfl, ha, ra⟩ := rx.list'
    rw [ry.int']
    refine .inr ⟨a, _, xs, rfl, rfl, (vis_some ha).2, h.1.1, h.1.2.1, by rw [ra.length]; exact h.1.2.2, fun p hp => q _ _ _ ⟨O, I.newLst ?_ hp⟩ h.2⟩
    generalize Int.toNat _ = n
    induction n with
    | zero => exact .nil
    | succ n ih =>
      rw [List.replicate_succ, List.flatten_cons, List.replicate_succ, List.flatten_cons]
      exact ra.append ih
  · exact h.elim
theorem ok_mod : Ok2 X Tb (rI (fun _ j => 0 < j) fun i j => .int (i % j)) modR := by
  intro B O0 M Lk O δ σ τ H x y d1 d2 P I rx ry h Q q
  unfold modR at h
  split at h
  · rw [rx.int', ry.int']
    exact ⟨_, _, rfl, rfl, h.1, q _ _ H ⟨O, I.push (.int _)⟩ h.2⟩
  · exact h.elim
theorem ok_fdiv : Ok2 X Tb (rI CDiv fun i j => .int (i / j)) fdivR := by
  intro B O0 M Lk O δ σ τ H x y d1 d2 P I rx ry h Q q
  unfold fdivR at h
  split at h
  · rw [rx.int', ry.int']
    exact ⟨_, _, rfl, rfl, h.1, q _ _ H ⟨O, I.push (.int _)⟩ h.2⟩
  · exact h.elim
theorem ok_pow : Ok2 X Tb (rI CPow fun i j => .int (i ^ j.toNat)) powR := by
  intro B O0 M Lk O δ σ τ H x y d1 d2 P I rx ry h Q q
  unfold powR at h
  split at h
  · rw [rx.int', ry.int']
    exact ⟨_, _, rfl, rfl, h.1, q _ _ H ⟨O, I.push (.int _)⟩ h.2⟩
  · exact h.elim
theorem ok_lt {f : Int → Int → Bool} : Ok2 X Tb (rI0 fun i j => .bl (f i j)) (ltR f) := by
  intro B O0 M Lk O δ σ τ H x y d1 d2 P I rx ry h Q q
  unfold ltR at h
  split at h
  · rw [rx.int', ry.int']
    exact ⟨_, _, rfl, rfl, q _ _ H ⟨O, I.push (.bl _)⟩ h⟩
  · exact h.elim
theorem op_eqDD (hu : X.A.units + 64 < cLine) : OpR X (compareOp .Eq) (fun x y H Q => rEq x y H Q ∨ rEqD X.K x y H Q) := OpR.or op_eq (op_eqD hu)
theorem op_neDD (hu : X.A.units + 64 < cLine) : OpR X (compareOp .NotEq) (fun x y H Q => rNe x y H Q ∨ rNeD X.K x y H Q) := OpR.or op_ne (op_neD hu)
theorem eqR_cases {f : Bool → Bool} {d1 d2 : D} {P : D → Prop} {O : List Addr} {H : Hp} {x y : V} (rx : Rp (vis O H) x d1) (ry : Rp (vis O H) y d2) (h : eqR f d1 d2 P) :
    (scal x y = true ∧ P (.bool (f (decide (x = y))))) ∨ (∀ K : PySem.W.Frag, Dp K H x d1 ∧ Dp K H y d2 ∧ SeqAt.shaped d1 = true ∧ SeqAt.shaped d2 = true ∧ P (.bool (f (PyData.eqv d1 d2)))) := by
  have fin : ((nd d1 = true ∧ nd d2 = true ∧ SeqAt.shaped d1 = true ∧ SeqAt.shaped d2 = true) ∧ P (.bool (f (PyData.eqv d1 d2)))) → (∀ K : PySem.W.Frag, Dp K H x d1 ∧ Dp K H y d2 ∧ SeqAt.shaped d1 = true ∧ SeqAt.shaped d2 = true ∧ P (.bool (f (PyData.eqv d1 d2)))) :=
    fun h K => ⟨rx.dp h.1.1, ry.dp h.1.2.1, h.1.2.2.1, h.1.2.2.2, h.2⟩
  unfold eqR at h
  split at h
  · rw [rx.int', ry.int']; exact .inl ⟨rfl, by simpa using h⟩
  · rw [rx.str', ry.str']; exact .inl ⟨rfl, by simpa using h⟩
  · rw [rx.bool', ry.bool']; exact .inl ⟨rfl, by simpa using h⟩
  · rw [rx.none', ry.none']; exact .inl ⟨rfl, by simpa using h⟩
  · rw [rx.none', ry.str']; exact .inl ⟨rfl, by simpa using h⟩
  · rw [rx.str', ry.none']; exact .inl ⟨rfl, by simpa using h⟩
  · rw [rx.none', ry.int']; exact .inl ⟨rfl, by simpa using h⟩
  · rw [rx.int', ry.none']; exact .inl ⟨rfl, by simpa using h⟩
  · rw [rx.int', ry.str']; exact .inl ⟨rfl, by simpa using h⟩
  · rw [rx.str', ry.int']; exact .inl ⟨rfl, by simpa using h⟩
  · exact .inr (fin h)
theorem ok_eq : Ok2 X Tb (fun x y H Q => rEq x y H Q ∨ rEqD X.K x y H Q) (eqR fun k => k) := by
  intro B O0 M Lk O δ σ τ H x y d1 d2 P I rx ry h Q q
  rcases eqR_cases rx ry h with ⟨h1, h2⟩ | h
  · exact .inl ⟨h1, q _ _ H ⟨O, I.push (.bl _)⟩ h2⟩
  · obtain ⟨h1, h2, h3, h4, h5⟩ := h X.K
    exact .inr ⟨_, _, h1, h2, h3, h4, q _ _ H ⟨O, I.push (.bl _)⟩ h5⟩
theorem ok_ne : Ok2 X Tb (fun x y H Q => rNe x y H Q ∨ rNeD X.K x y H Q) (eqR fun k => !k) := by
  intro B O0 M Lk O δ σ τ H x y d1 d2 P I rx ry h Q q
  rcases eqR_cases rx ry h with ⟨h1, h2⟩ | h
  · exact .inl ⟨h1, q _ _ H ⟨O, I.push (.bl _)⟩ h2⟩
  · obtain ⟨h1, h2, h3, h4, h5⟩ := h X.K
    exact .inr ⟨_, _, h1, h2, h3, h4, q _ _ H ⟨O, I.push (.bl _)⟩ h5⟩
theorem ok_is : Ok2 X Tb (fun x y H Q => y = .non ∧ Q (.bl (decide (x = .non))) H) (isR fun k => k) := by
  intro B O0 M Lk O δ σ τ H x y d1 d2 P I rx ry h Q q
  unfold isR at h
  split at h
  · rw [rx.none', ry.none']
    exact ⟨rfl, q _ _ H ⟨O, I.push (.bl _)⟩ h⟩
  · rename_i hn
    rw [ry.none']
    refine ⟨rfl, ?_⟩
    have e : decide (x = V.non) = false := decide_eq_false fun z => hn (by subst z; cases rx; rfl)
    rw [e]
    exact q _ _ H ⟨O, I.push (.bl _)⟩ h
  · exact h.elim
theorem ok_isnot : Ok2 X Tb (fun x y H Q => y = .non ∧ Q (.bl (!decide (x = .non))) H) (isR fun k => !k) := by
  intro B O0 M Lk O δ σ τ H x y d1 d2 P I rx ry h Q q
  unfold isR at h
  split at h
  · rw [rx.none', ry.none']
    exact ⟨rfl, q _ _ H ⟨O, I.push (.bl _)⟩ h⟩
  · rename_i hn
    rw [ry.none']
    refine ⟨rfl, ?_⟩
    have e : decide (x = V.non) = false := decide_eq_false fun z => hn (by subst z; cases rx; rfl)
    rw [e]
    exact q _ _ H ⟨O, I.push (.bl _)⟩ h
  · exact h.elim
end
end DL

set_option Elab.async false
set_option linter.all false
set_option maxRecDepth 100000
set_option maxHeartbeats 2000000
/-! GX: any and all of a generator expression whose elements may call and store. -/
namespace GX
open PySem PySem.Spec L2
open Sem (wp)

/-! ### the list of generators never becomes shorter -/
theorem runs_gens {M : Model} {Γ : PySem.Ctx} {p : Pos} {t : Sem Fin} {fs : List Frame} {a b : Shared} {e : End} (r : Runs M Γ p t fs a e b) : a.gens.size ≤ b.gens.size := by
  induction r <;> (try simp only [Shared.setGen, Array.size_setIfInBounds, Array.size_push] at *) <;> omega
theorem wakes_gens {M : Model} {Γ : PySem.Ctx} {p : Pos} {g : Nat} {r : Resume} {a b : Shared} {res : GenResult} (h : Wakes M Γ p g r a res b) : a.gens.size ≤ b.gens.size := by
  have key : ∀ {Γ' : PySem.Ctx} {p' : Pos} {t : Sem Fin} {fs : List Frame} {e : End} {c d : Shared}, Runs M Γ' p' t fs (a.setGen g .running) e c → d = c.setGen g e.genState → a.gens.size ≤ d.gens.size := fun hr he => by
    have := runs_gens hr
    rw [he]
    simp only [Shared.setGen, Array.size_setIfInBounds] at this ⊢
    exact this
  unfold Wakes at h
  split at h
  · exact h.elim
  · split at h
    · obtain ⟨e₁, c, hr, _, _, he⟩ := h
      exact key hr he
    · rw [h.2]
      exact Nat.le_refl _
    · rw [h.2]
      simp [Shared.setGen]
  · obtain ⟨e₁, c, hr, _, _, he⟩ := h
    exact key hr he
  · rw [h.2]
    exact Nat.le_refl _
  · rw [h.2]
    exact Nat.le_refl _
theorem wp_gens {α : Type} (M : Model) (Γ : PySem.Ctx) (n : Nat) (t : Sem α) : ∀ (Q : α → Pos → Shared → Prop) (E : Value → Pos → Shared → Prop) (p : Pos) (s : Shared), n ≤ s.gens.size → wp M Γ t Q E p s →
    wp M Γ t (fun a p' z => n ≤ z.gens.size ∧ Q a p' z) (fun e p' z => n ≤ z.gens.size ∧ E e p' z) p s := by
  induction t with
  | unsupported _ => exact fun _ _ _ _ _ h => h
  | finish _ => exact fun _ _ _ _ _ h => h
  | register _ _ => exact fun _ _ _ _ _ h => h
  | yield _ _ _ _ => exact fun _ _ _ _ _ h => h
  | fork _ _ => exact fun _ _ _ _ _ h => h
  | await _ _ _ _ _ => exact fun _ _ _ _ _ h => h
  | pure a => exact fun _ _ _ _ hn h => ⟨hn, h⟩
  | raise e => exact fun _ _ _ _ hn h => ⟨hn, h⟩
  | rule _ k ih => exact fun Q E p s hn h => ih () Q E p s hn h
  | point _ k ih => exact fun Q E p s hn h => ih () Q E p s hn h
  | «at» p' k ih => exact fun Q E p s hn h => ih () Q E p' s hn h
  | load a _ k ih => exact fun Q E p s hn ⟨o, ho, h⟩ => ⟨o, ho, ih o Q E p s hn h⟩
  | genState g k ih => exact fun Q E p s hn ⟨st, hs, h⟩ => ⟨st, hs, ih _ Q E p s hn h⟩
  | update a _ f k ih => exact fun Q E p s hn h => ⟨h.1, ih () Q E p _ hn h.2⟩
  | choose src m k ih => exact fun Q E p s hn h => ⟨h.1, ih _ Q E p _ hn h.2⟩
  | loadIfAlive a k ih => exact fun Q E p s hn h => ih _ Q E p s hn h
  | alloc o k ih => exact fun Q E p s hn h => ih _ Q E p _ hn h
  | fresh k ih => exact fun Q E p s hn h => ih _ Q E p _ hn h
  | ask k ih => exact fun Q E p s hn h => ih _ Q E p s hn h
  | os q _ k ih => exact fun Q E p s hn h => ih _ Q E p _ hn h
  | handled own k ih => exact fun Q E p s hn h => ih _ Q E p s hn h
  | stack k ih => exact fun Q E p s hn h => ih _ Q E p s hn h
  | thread k ih => exact fun Q E p s hn h => ih _ Q E p s hn h
  | newGen c k ih => exact fun Q E p s hn h => ih _ Q E p _ (by rw [Array.size_push]; exact Nat.le_succ_of_le hn) h
  | call c hd _ _ k ih => exact fun Q E p s hn ⟨r, z, hr, h⟩ => ⟨r, z, hr, ih r Q E p z (Nat.le_trans hn (runs_gens hr)) h⟩
  | resume g r _ k ih => exact fun Q E p s hn ⟨res, z, hw, h⟩ => ⟨res, z, hw, ih res Q E p z (Nat.le_trans hn (wakes_gens hw)) h⟩
theorem with_gens {α : Type} {M : Model} {A : Around} {s : Shared} {t : Sem α} {Q : α → Shared → Prop} {E : Value → Shared → Prop} (h : wpAny M A t Q E s) :
    wpAny M A t (fun a z => s.gens.size ≤ z.gens.size ∧ Q a z) (fun e z => s.gens.size ≤ z.gens.size ∧ E e z) s :=
  fun Γ p hΓ => wp_gens M Γ _ t _ _ p s (Nat.le_refl _) (h Γ p hΓ)

/-! ### the loops of any and all -/
section
variable {prog : Program} {w : World} {A : Around} {R : Result → Shared → Prop} {a : Addr}
theorem any_turns (Z : Nat → Shared → Prop)
    (turn : ∀ n s, Z n s → wpAny (model prog w) A.in1 (pyNext (.ref a)) (fun r z => match r with
      | none => R (.ok (.ret (.bool false))) z
      | some v => ∃ b, v = .bool b ∧ if b = true then R (.ok (.ret (.bool true))) z else ∃ m, m < n ∧ Z m z) (fun _ _ => False) s) :
    ∀ n s, Z n s → codeAny (model prog w) A (.builtin "any.loop" ⟨[.ref a], []⟩) R s := by
  intro n
  induction n using Nat.strongRecOn with
  | _ n ih =>
    intro s hz
    refine codeAny_builtin F.entry_any_loop ?_
    rw [Around.under_plainId F.plain_any_loop _]
    show wpAny _ A.in1 (pyNext (.ref a) >>= _) _ _ s
    refine wpAny_bind (wpAny_mono (turn n s hz) (fun r z h => ?_) fun _ _ h => h.elim)
    cases r with
    | none => exact wpAny_bind (wpAny_rule (wpAny_pure h))
    | some v =>
      obtain ⟨b, rfl, h⟩ := h
      refine wpAny_bind (wpAny_holding (wpAny_truthy_bool (wpAny_bind (wpAny_letGo ?_))))
      cases b with
      | false =>
        obtain ⟨m, hm, hz'⟩ := h
        exact wpAny_pure ⟨plainId_quiet F.plain_any_loop _, ih m hm z hz'⟩
      | true => exact wpAny_bind (wpAny_rule (wpAny_pure h))
theorem all_turns (Z : Nat → Shared → Prop)
    (turn : ∀ n s, Z n s → wpAny (model prog w) A.in1 (pyNext (.ref a)) (fun r z => match r with
      | none => R (.ok (.ret (.bool true))) z
      | some v => ∃ b, v = .bool b ∧ if b = true then ∃ m, m < n ∧ Z m z else R (.ok (.ret (.bool false))) z) (fun _ _ => False) s) :
    ∀ n s, Z n s → codeAny (model prog w) A (.builtin "all.loop" ⟨[.ref a], []⟩) R s := by
  intro n
  induction n using Nat.strongRecOn with
  | _ n ih =>
    intro s hz
    refine codeAny_builtin F.entry_all_loop ?_
    rw [Around.under_plainId F.plain_all_loop _]
    show wpAny _ A.in1 (pyNext (.ref a) >>= _) _ _ s
    refine wpAny_bind (wpAny_mono (turn n s hz) (fun r z h => ?_) fun _ _ h => h.elim)
    cases r with
    | none => exact wpAny_bind (wpAny_rule (wpAny_pure h))
    | some v =>
      obtain ⟨b, rfl, h⟩ := h
      refine wpAny_bind (wpAny_holding (wpAny_truthy_bool (wpAny_bind (wpAny_letGo ?_))))
      cases b with
      | true =>
        obtain ⟨m, hm, hz'⟩ := h
        exact wpAny_pure ⟨plainId_quiet F.plain_all_loop _, ih m hm z hz'⟩
      | false => exact wpAny_bind (wpAny_rule (wpAny_pure h))
end

/-! ### the generator's frame -/
structure GenOk (N : List Str) (sc scope : Scope) (x : Str) : Prop where
  kind : scope.kind = .function
  co : scope.isCoroutine = false
  uniq : ∀ y ∈ scope.names, scope.names.lookup y.1 = some y.2
  cell : ∀ y ∈ scope.names, y.2 ≠ .cell
  dot : scope.names.lookup (".0" : Str) = some NameKind.local
  loc : scope.names.lookup x = some .local
  free : ∀ y ∈ scope.names, y.2 = .free → sc.names.lookup y.1 = some .cell ∨ sc.names.lookup y.1 = some .free
  own : ∀ y ∈ scope.names, y.2 = .local → y.1 ∉ N
def genC (N : List Str) (sc scope : Scope) (x : Str) : Bool :=
  (match scope.kind with | .function => true | _ => false) && !scope.isCoroutine && scope.names.all (fun y => decide (scope.names.lookup y.1 = some y.2)) && scope.names.all (fun y => !decide (y.2 = .cell)) &&
    decide (scope.names.lookup (".0" : Str) = some NameKind.local) && decide (scope.names.lookup x = some NameKind.local) &&
    scope.names.all (fun y => !decide (y.2 = .free) || decide (sc.names.lookup y.1 = some .cell) || decide (sc.names.lookup y.1 = some .free)) && scope.names.all (fun y => !decide (y.2 = .local) || !decide (y.1 ∈ N))
theorem genOk_by {N : List Str} {sc scope : Scope} {x : Str} (h : genC N sc scope x = true) : GenOk N sc scope x := by
  unfold genC at h
  simp only [Bool.and_eq_true, List.all_eq_true, decide_eq_true_eq, Bool.or_eq_true, Bool.not_eq_true', decide_eq_false_iff_not] at h
  obtain ⟨⟨⟨⟨⟨⟨⟨h1, h2⟩, h3⟩, h4⟩, h5⟩, h6⟩, h7⟩, h8⟩ := h
  refine ⟨?_, h2, h3, h4, h5, h6, fun y hy e => ?_, fun y hy e => ?_⟩
  · cases e : scope.kind <;> rw [e] at h1 <;> first | rfl | cases h1
  · rcases h7 y hy with (z | z) | z
    · exact absurd e z
    · exact .inl z
    · exact .inr z
  · rcases h8 y hy with z | z
    · exact absurd e z
    · exact z

abbrev genX (X : Cx) (x : Str) (z : Shared) (H : Hp) (cenv : Env) (fp : List Addr) (A' : Around) : Cx :=
  { X with s_0 := z, H_0 := H, env := cenv, A := A', N := x :: X.N, outer := X.stack, stack := cenv :: X.stack, ex := fp, fn := fun _ => false, calm := true, pn := [], xe := fun _ _ => False }
abbrev gEnv (X : Cx) (scope : Scope) (code : Value) (C : Addr) : Env := genEnv scope (cloFrom X.env.cells scope.names []) C code builtinsNs X.env

section
variable {X : Cx} {pins : List (Addr × Obj)} {σ : L2.St} {H : Hp} {z : Shared}
theorem gen_start {scope : Scope} {x : Str} {fp : List Addr} {code : Value} {A' : Around} {m : Str → Option Value} {h5 : Heap} {g' : Array GenState} {t' : Nat} (I : Inv X pins σ H z) (ok : GenOk X.N X.env.scope scope x) (hfp : ∀ b ∈ fp, FpOk X pins H b ∧ b < z.heap.objs.size)
    (hA : A'.handled = none) (hF : A'.frames = some (gEnv X scope code z.heap.objs.size :: X.stack)) (kp : ∀ b o, z.heap.get? b = some o → h5.get? b = some o) (hn : h5.Ns z.heap.objs.size m) (hg : PyProof.Rows.AllBare g') :
    Inv (genX X x z H (gEnv X scope code z.heap.objs.size) fp A') [] (none :: σ) H { z with heap := h5, gens := g', toks := t' } := by
  have cm : ∀ {y c}, (cloFrom X.env.cells scope.names []).lookup y = some c → X.env.cells.lookup y = some c ∧ c < z.heap.objs.size := fun {y c} e => by
    rcases cloFrom_mem (PySem.mem_of_lookup e) with hm | ⟨h1, rfl⟩
    · cases hm
    · obtain ⟨c, hc⟩ := (ok.free _ h1 rfl).elim (fun k => I.ok.has _ (.inl k)) fun k => I.ok.has _ (.inr k)
      rw [hc]
      obtain ⟨w, q⟩ := I.cell _ _ hc
      exact ⟨rfl, q.lt⟩
  have look : ∀ {y}, scope.names.lookup y = some .free → ∃ c, (cloFrom X.env.cells scope.names []).lookup y = some c ∧ X.env.cells.lookup y = some c := fun {y} hl => by
    obtain ⟨c', e'⟩ := mem_lookup (cloFrom_has (cells := X.env.cells) (acc := []) (PySem.mem_of_lookup hl))
    exact ⟨c', e', (cm e').1⟩
  have nocell : ∀ {y}, scope.names.lookup y ≠ some .cell := fun {y} e => ok.cell _ (PySem.mem_of_lookup e) rfl
  have okB : (genX X x z H (gEnv X scope code z.heap.objs.size) fp A').Ok := by
    refine ⟨I.ok.mod, ok.kind, I.ok.glob, rfl, Nat.le_refl _, fun y u c e1 e2 => I.ok.inj y u c (cm e1).1 (cm e2).1, fun y hy => ?_, fun y c q => (by cases q), fun _ => hA, hF, .inr ⟨rfl, rfl⟩, fun b hb => ⟨Nat.ne_of_lt (hfp b hb).2, fun y c e q => (hfp b hb).1.2.2.2.2.1 y c (cm e).1 q⟩,
      I.bs, Nat.le_trans I.ok.bsz I.sz, fun b o e hb => ?_, fun b hb q => ?_, I.stack, I.stkFree⟩
    · rcases hy with k | k
      · exact absurd k nocell
      · obtain ⟨c, e, _⟩ := look k
        exact ⟨c, e⟩
    · rcases (hfp b hb).1.2.2.2.1 with q | q
      · exact I.ok.noex b o e q
      · exact absurd (Nat.lt_of_lt_of_le (Heap.lt_size e) (Nat.le_trans I.ok.bsz q)) (Nat.lt_irrefl _)
    · rcases List.mem_cons.mp (I.stkSub b q) with q | q
      · exact (hfp b hb).1.2.1 q
      · exact (hfp b hb).1.2.2.1 q
  refine ⟨okB, rfl, hg, Un.kept kp, ⟨m, hn, fun i y av e1 e2 e3 => ?_⟩, fun y c e => ?_, I.hok.fresh (Nat.le_refl _), fun y c e => I.freeC y c (cm e).1, fun p hp => absurd (show p ∈ ([] : List (Addr × Obj)) ++ [] from hp) (by simp), I.hok.kept kp, ?_⟩
  · cases i with
    | zero => cases e2
    | succ i =>
      have e1 : X.N[i]? = some y := e1
      have e2 : σ[i]? = some (some av) := e2
      have nloc : scope.names.lookup y ≠ some .local := fun q => ok.own _ (PySem.mem_of_lookup q) rfl (List.mem_of_getElem? e1)
      have hfr : scope.names.lookup y = some .free := by
        rcases e3 with k | k | k
        · exact absurd k nloc
        · exact absurd k nocell
        · exact k
      obtain ⟨mm, hnn, hl⟩ := I.loc
      have hvis : Vis X.env.scope y := (ok.free _ (PySem.mem_of_lookup hfr) rfl).elim (fun k => .inr (.inl k)) (fun k => .inr (.inr k))
      obtain ⟨u, r, q⟩ := hl i y av e1 e2 hvis
      refine ⟨u, r, .inr ⟨.inr hfr, ?_⟩⟩
      obtain ⟨c, h1, h2⟩ := look hfr
      rcases q with ⟨k, _⟩ | ⟨_, c', e', q⟩
      · have k : X.env.scope.names.lookup y = some .local := k
        rcases ok.free _ (PySem.mem_of_lookup hfr) rfl with k' | k' <;> rw [show X.env.scope.names.lookup y = _ from k'] at k <;> cases k
      · rw [h2] at e'
        cases e'
        exact ⟨c, h1, q.keeps kp⟩
  · obtain ⟨w, q⟩ := I.cell y c (cm e).1
    exact ⟨w, q.keeps kp⟩
  · show σ.length + 1 = X.N.length + 1
    rw [I.len]
end

section
variable {X : Cx} {pins : List (Addr × Obj)} {σ : L2.St} {H : Hp} {z : Shared}
/-- back in the caller's context -/
theorem gen_out {x : Str} {cenv : Env} {fp : List Addr} {A' : Around} {pl : List (Addr × Obj)} {σ' : L2.St} {H' : Hp} {s : Shared} {g' : Array GenState} {t' : Nat} {h' : Heap} (I : Inv X pins σ H z) (hfp : ∀ b ∈ fp, FpOk X pins H b)
    (J : Inv (genX X x z H cenv fp A') pl σ' H' s) (hg : PyProof.Rows.AllBare g') (hk : ∀ b o, s.heap.get? b = some o → h'.get? b = some o) : Inv X pins σ H' { s with heap := h', gens := g', toks := t' } := by
  have K : Inv X pins σ H' s := I.call' (ch := fp) J.os J.base J.hok J.bare fun b hb => ⟨(hfp b hb).2.2.2.1, (hfp b hb).2.1, (hfp b hb).2.2.2.2.1, (hfp b hb).2.2.2.2.2⟩
  have K2 : Inv X pins σ H' { s with heap := h', toks := t' } := K.kept hk
  exact ⟨K2.ok, K2.os, hg, K2.base, K2.loc, K2.cell, K2.free, K2.freeC, K2.pin, K2.hok, K2.len⟩
/-- only the heap matters -/
theorem inv_same {Y : Cx} {pl : List (Addr × Obj)} {σ' : L2.St} {H' : Hp} {s s2 : Shared} (J : Inv Y pl σ' H' s) (h : s2.heap = s.heap) (ho : s2.os = s.os) (hg : PyProof.Rows.AllBare s2.gens) : Inv Y pl σ' H' s2 := by
  obtain ⟨h2, g2, d2, t2, o2⟩ := s2
  subst h ho
  exact ⟨J.ok, J.os, hg, J.base, J.loc, J.cell, J.free, J.freeC, J.pin, J.hok, J.len⟩

/-- what is wanted of the generator's end, of each item -/
def GEnd (Yx : Cx) (pa : Addr × Obj) (Qe : Hp → Prop) : GenEnd := fun _ _ r s => r = .ok .next ∧ ∃ σ' H', Inv Yx [pa] σ' H' s ∧ Qe H'
def GYld (Yx : Cx) (pa : Addr × Obj) (g : Nat) (sb : Bool) (Qs : Hp → Prop) : Protocol := fun _ _ v s kap => ∃ b σ' H', v = .bool b ∧ g < s.gens.size ∧ Inv Yx [pa] σ' H' s ∧
  if b = sb then Qs H' else ∀ s2 : Shared, s2.heap = s.heap → s2.os = s.os → g < s2.gens.size → PyProof.Rows.AllBare s2.gens → kap (.send .none) s2

/-- weaker, with the generators' number -/
theorem thnG {α : Type} {t : Sem α} {Q Q' : α → Shared → Prop} {M : Model} {A : Around} {E : Value → Shared → Prop} {s : Shared} (h : wpAny M A t Q (fun _ _ => False) s) (hQ : ∀ a z, s.gens.size ≤ z.gens.size → Q a z → Q' a z) : wpAny M A t Q' E s :=
  wpAny_mono (with_gens h) (fun a z q => hQ a z q.1 q.2) fun _ _ q => q.2.elim

abbrev gCode (elt tg iter : Expr) (scope : Scope) (pos : Pos) (it : Addr) (cenv : Env) : Code := .compLoop (.GeneratorExp elt [⟨tg, iter, [], 0⟩] scope pos) 0 (.ref it) .none cenv
theorem gen_seg {elt tg iter : Expr} {scope : Scope} {pos : Pos} {it : Addr} {cenv : Env} {x : Str} {fp : List Addr} {tn : Nat → Heap → Prop} {J : It} {gt : TG} {te : TE} {A2 A' : Around} {pa : Addr × Obj} {g : Nat} {sb : Bool} {Qe Qs : Hp → Prop} {W : Nat → Nat → Hp → Prop}
    (hco : cenv.scope.isCoroutine = false) (T : Turn X.prog X.w X.K tg J fp it tn) (hA' : A2.over (gCode elt tg iter scope pos it cenv) [] = A') (pg : PG (genX X x z H cenv fp A') tg gt) (pe : PE (genX X x z H cenv fp A') elt te) (hpa : ∀ b ∈ fp, pa.1 ≠ b)
    (turn : ∀ i m H1, W i m H1 → (J.stop i H1 ∧ Qe H1) ∨ (J.go i H1 ∧ ∀ y H2, J.yld i H1 y H2 → ∀ o, gt y (o :: σ) H2 fun σ2 H3 => (∃ o', σ2 = o' :: σ) ∧ te σ2 H3 fun v H4 => ∃ b, v = .bl b ∧ if b = sb then Qs H4 else ∃ m', m' < m ∧ W (i + 1) m' H4)) :
    ∀ (m n i : Nat) (s₀ s : Shared) (o : Option V) (H1 : Hp), m < n → W i m H1 → Inv (genX X x z H cenv fp A') [pa] (o :: σ) H1 s → tn i s.heap → (∀ b ∈ fp, H1 b = none) → g < s.gens.size →
      Seg (model X.prog X.w) A2 (GEnd (genX X x z H cenv fp A') pa Qe) (GYld (genX X x z H cenv fp A') pa g sb Qs) n s₀ (gCode elt tg iter scope pos it cenv) ((model X.prog X.w).den (gCode elt tg iter scope pos it cenv)) [] s := by
  have stat : ∀ {pl : List (Addr × Obj)} {σ' : L2.St} {H' : Hp} {s' : Shared}, (∀ p ∈ pl, p = pa) → Inv (genX X x z H cenv fp A') pl σ' H' s' → (∀ b ∈ fp, H' b = none) → ∀ b ∈ fp, FpOk (genX X x z H cenv fp A') pl H' b := fun {pl σ' H' s'} hpl I' hn b hb =>
    ⟨hn b hb, (I'.ok.exf b hb).1, I'.ok.exfs b hb, .inl hb, fun y c e => (I'.ok.exf b hb).2 y c e, fun p hp => by
      have e : p = pa := hpl p (by simpa using hp)
      rw [e]
      exact hpa b hb⟩
  have one : ∀ p ∈ [pa], p = pa := fun p hp => by simpa using hp
  intro m
  induction m using Nat.strongRecOn with
  | _ m ih =>
    intro n i s₀ s o H1 hmn w I st nf hgs
    show Seg _ A2 _ _ _ s₀ _ ((compTurn (.GeneratorExp elt [⟨tg, iter, [], 0⟩] scope pos) 0 (.ref it) .none cenv).onRaise (leaving cenv)) [] s
    rw [compTurn_gen, Sem.onRaise_eq_wrap]
    refine seg_bind_wrap (wpAny_standAt ?_)
    rcases turn i m H1 w with ⟨stop, qe⟩ | ⟨go, step⟩
    · refine seg_bind_wrap ?_
      rw [hA']
      refine thnF (T.done (genX X x z H cenv fp A') rfl rfl rfl rfl i [pa] s _ H1 (fun _ _ => False) I (stat one I nf) st stop) fun r s1 ⟨hr, I1⟩ => ?_
      subst hr
      exact seg_end (.ok .next) ⟨rfl, _, H1, I1, qe⟩
    · refine seg_bind_wrap ?_
      rw [hA']
      refine thnG (T.item (genX X x z H cenv fp A') rfl rfl rfl rfl i [pa] s _ H1 (fun _ _ => False) I (stat one I nf) st go) fun r s1 g1 ⟨u, hr, h1⟩ => ?_
      subst hr
      refine seg_bind_wrap ?_
      rw [hA']
      refine thnG h1 fun _ s2 g2 ⟨y, H2, I2, r2, y2, st2, n2⟩ => ?_
      have I2' := I2.pinned (stat one I2 n2) (T.obj _ _ st2)
      refine seg_bind_wrap ?_
      rw [hA']
      refine thnG (pg.run _ s2 _ H2 y u _ I2' r2 (step y H2 y2 o)) fun _ s3 g3 ⟨σ3, H3, I3, ⟨o', e3⟩, q3⟩ => ?_
      subst e3
      simp only [List.forIn_nil]
      refine seg_bind_wrap (wpAny_pure ?_)
      simp only [if_true]
      have hy : ∀ v, yieldOut cenv v = yieldValue v := fun v => by simp only [yieldOut, hco, Bool.false_eq_true, if_false]
      simp only [hy]
      rw [Sem.bind_eq_wrap', Sem.bind_eq_wrap', Sem.wrap_wrap, Sem.wrap_wrap]
      refine seg_wrap ?_
      rw [hA']
      refine thnG (pe.run _ s3 _ H3 _ I3 q3) fun v s4 g4 ⟨yv, H4, I4, r4, b, e4, q4⟩ => ?_
      subst e4
      cases r4
      have gs4 : g < s4.gens.size := by omega
      obtain ⟨n', rfl⟩ : ∃ n', n = n' + 1 := ⟨n - 1, by omega⟩
      have pin4 : ∀ c ∈ fp, ∀ oc, s2.heap.get? c = some oc → s4.heap.get? c = some oc ∧ H4 c = none := fun c hcf oc e =>
        let q := I4.pin (c, oc) (List.mem_append_right _ (List.mem_append_right _ (mem_pinsAt hcf e)))
        ⟨q.1, q.2.1⟩
      have J4 : Inv (genX X x z H cenv fp A') [pa] (o' :: σ) H4 s4 := I4.unpinned (pins := [pa])
      refine seg_at (seg_yield rfl rfl rfl ⟨b, _, H4, rfl, gs4, J4, ?_⟩)
      by_cases hb : b = sb
      · rw [if_pos hb] at q4 ⊢
        exact q4
      · rw [if_neg hb] at q4 ⊢
        obtain ⟨m', hm', w'⟩ := q4
        intro s5 e5 o5 g5 b5
        refine seg_again rfl (ih m' hm' n' (i + 1) s5 s5 o' H4 (by omega) w' (inv_same J4 e5 o5 b5) ?_ (fun c hcf => ?_) g5)
        · rw [e5]
          exact T.keep _ _ _ st2 fun c hcf oc e => (pin4 c hcf oc e).1
        · obtain ⟨oc, e, _⟩ := T.obj _ _ st2 c hcf
          exact (pin4 c hcf oc e).2
end

section
variable {X : Cx}
/-- any(elt for tg in iter) (sb: true), all(..) (sb: false): W by the turn and a measure -/
def tGen (sb : Bool) (P : Addr) (wi : TI) (gt : TG) (te : TE) : TE := fun σ H Q => wi σ H fun J H1 => GxR.TabG H1 P ∧ ∀ H2, GxR.Tabbed P H1 H2 → ∃ W : Nat → Nat → Hp → Prop, (∃ m, W 0 m H2) ∧ ∀ i m H3, W i m H3 →
  (J.stop i H3 ∧ Q (.bl (!sb)) H3) ∨ (J.go i H3 ∧ ∀ y H4, J.yld i H3 y H4 → ∀ o, gt y (o :: σ) H4 fun σ2 H5 => (∃ o', σ2 = o' :: σ) ∧ te σ2 H5 fun v H6 => ∃ b, v = .bl b ∧ if b = sb then Q (.bl sb) H6 else ∃ m', m' < m ∧ W (i + 1) m' H6)
/-- the state in which the generator at a, number g, waits -/
def Waits (M : Model) (A2 : Around) (R : GenEnd) (Y : Protocol) (a : Addr) (g : Nat) (n : Nat) (s : Shared) : Prop :=
  s.heap.IsGen a g ∧ s.heap.NoLimit ∧ ∃ gs, s.gens[g]? = some gs ∧ gs.Goes M A2 R Y n (.send .none) (s.setGen g .running)
theorem bare_set {gens : Array GenState} {g : Nat} {y : GenState} (h : PyProof.Rows.AllBare gens) (hy : y.bare = true) : PyProof.Rows.AllBare (gens.setIfInBounds g y) := fun u hu => by
  obtain ⟨i, hi, rfl⟩ := Array.mem_iff_getElem.mp hu
  have hi' : i < gens.size := by simpa using hi
  rw [Array.getElem_setIfInBounds hi']
  split
  · exact hy
  · exact h _ (Array.getElem_mem hi')
theorem set_at {gens : Array GenState} {g : Nat} {y : GenState} (h : g < gens.size) : (gens.setIfInBounds g y)[g]? = some y := by simp [h]

theorem waits_next {pins : List (Addr × Obj)} {σ : L2.St} {H : Hp} {z : Shared} {x : Str} {cenv : Env} {fp : List Addr} {A0 A' : Around} {a : Addr} {oa : Obj} {g : Nat} {sb : Bool} {Qe Qs : Hp → Prop} {Qf : Option Value → Shared → Prop} {E : Value → Shared → Prop} {n : Nat} {s : Shared}
    (hh : A0.handled = none) (hd : A0.depth < recursionLimit) (I : Inv X pins σ H z) (hfp : ∀ b ∈ fp, FpOk X pins H b) (ha : ∃ nm qn, oa.cls = .type "generator" ∧ oa.data = .fields #[.int g 0, nm, qn] ∧ oa.slots = #[])
    (hz : Waits (model X.prog X.w) A0.in1 (GEnd (genX X x z H cenv fp A') (a, oa) Qe) (GYld (genX X x z H cenv fp A') (a, oa) g sb Qs) a g n s)
    (hE : ∀ s1 H1, Inv X pins σ H1 s1 → Qe H1 → Qf none s1)
    (hS : ∀ b s1 H1, b = sb → Inv X pins σ H1 s1 → Qs H1 → Qf (some (.bool b)) s1)
    (hN : ∀ b s1 m, b ≠ sb → m < n → Waits (model X.prog X.w) A0.in1 (GEnd (genX X x z H cenv fp A') (a, oa) Qe) (GYld (genX X x z H cenv fp A') (a, oa) g sb Qs) a g m s1 → Qf (some (.bool b)) s1) :
    wpAny (model X.prog X.w) A0 (pyNext (.ref a)) Qf E s := by
  obtain ⟨hg, hl, gs, hgs, go⟩ := hz
  refine wpAny_pyNext_genexpQ (P := fun _ _ s1 => ∃ σ' H', Inv (genX X x z H cenv fp A') [(a, oa)] σ' H' s1 ∧ Qe H') hh hl hd hg hgs go (fun v s1 gs' hb hy => ?_) (fun s1 hp h' hk => ?_)
  · obtain ⟨b, σ', H', rfl, hlt, J, q⟩ := hy
    have out : Inv X pins σ H' (s1.setGen g gs') := gen_out (h' := s1.heap) (t' := s1.toks) I hfp J (bare_set J.bare hb) fun _ _ e => e
    by_cases hbs : b = sb
    · rw [if_pos hbs] at q
      exact hS b _ H' hbs out q
    · rw [if_neg hbs] at q
      cases n with
      | zero => exact (q s1 rfl rfl hlt J.bare).elim
      | succ m =>
        refine hN b _ m hbs (Nat.lt_succ_self m) ⟨?_, out.nolimit, gs', set_at hlt, q _ rfl rfl ?_ (bare_set (bare_set J.bare hb) rfl)⟩
        · obtain ⟨nm, qn, h1, h2, h3⟩ := ha
          exact ⟨oa, nm, qn, (J.pin (a, oa) (by simp)).1, h1, h2, h3⟩
        · simp only [Shared.setGen, Array.size_setIfInBounds]
          exact hlt
  · obtain ⟨σ', H', J, q⟩ := hp
    have out : Inv X pins σ H' { s1 with heap := h', gens := s1.gens.setIfInBounds g .finished, toks := s1.toks } := gen_out I hfp J (bare_set J.bare rfl) hk
    exact hE _ H' out q

theorem gen_first {elt tg iter : Expr} {scope : Scope} {pos : Pos} {it : Addr} {cenv : Env} {A2 : Around} {R : GenEnd} {Y : Protocol} {n : Nat} {s : Shared} {tn : Nat → Heap → Prop} {P : Program} {w : World} {K : PySem.W.Frag} {J : It} {fp : List Addr}
    (T : Turn P w K tg J fp it tn) (st : tn 0 s.heap) (loop : ∀ s₀, Seg (model P w) A2 R Y n s₀ (gCode elt tg iter scope pos it cenv) ((model P w).den (gCode elt tg iter scope pos it cenv)) [] s) :
    (GenState.fresh (.compStart (.GeneratorExp elt [⟨tg, iter, [], 0⟩] scope pos) 0 (.ref it) .none cenv)).Goes (model P w) A2 R Y n (.send .none) s := by
  refine ⟨rfl, ?_⟩
  show Seg _ A2 _ _ _ s _ ((compStart (.GeneratorExp elt [⟨tg, iter, [], 0⟩] scope pos) 0 (.ref it) .none cenv).onRaise (leaving cenv)) [] s
  unfold compStart
  rw [Sem.onRaise_eq_wrap]
  show Seg _ A2 _ _ _ s _ ((ask >>= _).wrap _ _ _ _) [] s
  refine seg_bind_wrap (wpAny_askSetting ?_)
  have again := seg_again (M := model P w) (A := A2) (R := R) (Y := Y) (n := n) (s₀ := s) (c := .compStart (.GeneratorExp elt [⟨tg, iter, [], 0⟩] scope pos) 0 (.ref it) .none cenv) (fs := []) (s := s) (c' := gCode elt tg iter scope pos it cenv) rfl (loop s)
  split
  · exact again
  · refine seg_bind_wrap (wpAny_rule ?_)
    show Seg _ A2 _ _ _ s _ ((standAt iter.pos >>= _).wrap _ _ _ _) [] s
    exact seg_bind_wrap (wpAny_standAt (seg_bind_wrap (T.self _ 0 s _ _ st again)))

theorem over_fr {A2 : Around} {elt tg iter : Expr} {scope : Scope} {pos : Pos} {it : Addr} {cenv : Env} {l : List Env} (h : A2.frames = some l) : (A2.over (gCode elt tg iter scope pos it cenv) []).frames = some (cenv :: l) := by
  show (A2.frames).map ([cenv] ++ ·) = _
  rw [h]
  rfl
theorem over_room {A2 : Around} {elt tg iter : Expr} {scope : Scope} {pos : Pos} {it : Addr} {cenv : Env} {k : Nat} (h : A2.handled = none) (hd : A2.depth + 1 + 3 * k + 5 < recursionLimit) (hu : A2.units + 3 + 16 * k + 200 < cLine) : Room k (A2.over (gCode elt tg iter scope pos it cenv) []) :=
  ⟨h, hd, hu⟩
/-- the generator is made -/
theorem gen_made {c P : Addr} {elt tg iter : Expr} {x : Str} {gpos : Pos} {scope : Scope} {wi : TI} {gt : TG} {te : TE} {k : Nat} {sb : Bool} {pins : List (Addr × Obj)} {σ : L2.St} {H : Hp} {s : Shared} {Q : VK} {Q' : Value → Shared → Prop}
    (hr : Room (k + 1) X.A) (TB : GxR.TabB X.base X.mg c P) (hcode : X.env.code = .ref c) (ok : GenOk X.N X.env.scope scope x) (hi : PI X tg iter wi)
    (hg : ∀ (z : Shared) (H : Hp) (code : Value) (C : Addr) (fp : List Addr) (A' : Around), PG (genX X x z H (gEnv X scope code C) fp A') tg gt)
    (he : ∀ (z : Shared) (H : Hp) (code : Value) (C : Addr) (fp : List Addr) (A' : Around), Room k A' → PE (genX X x z H (gEnv X scope code C) fp A') elt te)
    (hs : ∀ v, genFold iter X.env v = pure v) (I : Inv X pins σ H s) (h : tGen sb P wi gt te σ H Q)
    (hQ : ∀ (a : Addr) (g n : Nat) (s6 z : Shared) (H4 : Hp) (cenv : Env) (fp : List Addr) (A' : Around) (oa : Obj), Inv X pins σ H4 z → (∀ b ∈ fp, FpOk X pins H4 b) → (∃ nm qn, oa.cls = .type "generator" ∧ oa.data = .fields #[.int g 0, nm, qn] ∧ oa.slots = #[]) →
      Waits (model X.prog X.w) X.A.in1.in1 (GEnd (genX X x z H4 cenv fp A') (a, oa) (fun H' => Q (.bl (!sb)) H')) (GYld (genX X x z H4 cenv fp A') (a, oa) g sb (fun H' => Q (.bl sb) H')) a g n s6 → Q' (.ref a) s6) :
    wpAny (model X.prog X.w) X.A (eval (.GeneratorExp elt [⟨tg, iter, [], 0⟩] scope gpos) X.env) Q' X.xe s := by
  have hfree : ∀ y ∈ scope.names, y.2 = .free → ∃ c, X.env.cells.lookup y.1 = some c := fun y hy e => (ok.free y hy e).elim (fun k => I.ok.has _ (.inl k)) fun k => I.ok.has _ (.inr k)
  refine wpAny_GeneratorExp_make ok.co (closure_ok hfree) ok.cell ok.dot ok.kind (by have := hr.dp; omega) ?_ hs
  refine thn (hi.run pins s σ H _ I h) fun xv s1 h1 => thn h1 fun itv s2 h2 => ?_
  obtain ⟨it, fp, tn, J, H2, rfl, I2, T, st2, f2, ⟨ps, hP, ht⟩, q⟩ := h2
  refine ⟨I2.nolimit, ?_⟩
  have hPs : s2.heap.get? P = some { cls := .none, data := .fields ps } := I2.hok P _ hP
  have hcd : PySem.W.CodeHd s2.heap c P := TB.code.keeps I2.bk
  have nP : ∀ b ∈ fp, b ≠ P := fun b hb e => by
    have := (f2 b hb).1
    rw [e, hP] at this
    cases this
  have cont : ∀ (code : Value) (h3 : Heap) (tk : Nat) (more : Array Value), Heap.ExtBut P s2.heap h3 → h3.get? P = some { cls := .none, data := .fields (ps ++ more) } → TriplesOk (ps ++ more).toList →
      wpAny (model X.prog X.w) X.A (builtinsFor X.env.globals X.env.builtins) (fun bi s₄ =>
        ∀ h', h'.Ns s₄.heap.objs.size (fun y => if y = ".0" then some (.ref it) else none) → Heap.SameBut s₄.heap.objs.size (s₄.heap.push { cls := .type "frame", data := .dict #[] }) h' →
          Q' (.ref h'.objs.size) { s₄ with
            gens := s₄.gens.push (.fresh (.compStart (.GeneratorExp elt [⟨tg, iter, [], 0⟩] scope gpos) 0 (.ref it) .none (genEnv scope (cloFrom X.env.cells scope.names []) s₄.heap.objs.size code bi X.env))),
            toks := s₄.toks + 1 + 1 + 1,
            heap := h'.push { cls := .type "generator", data := .fields #[.int s₄.gens.size 0, .str "<genexpr>" (s₄.toks + 1), .str (X.env.qual ++ "<genexpr>") (s₄.toks + 1 + 1)] } }) X.xe { s2 with heap := h3, toks := tk } := by
    intro code h3 tk more hx hP3 ht3
    have I3 : Inv X pins σ (upd H2 P (.tbl (ps ++ more))) { s2 with heap := h3, toks := tk } := GxR.inv_tab (g' := s2.gens) (d' := s2.drawn) I2 hP (fun b o hb e => hx b o hb e) hP3 I2.bare
    have tabbed : GxR.Tabbed P H2 (upd H2 P (.tbl (ps ++ more))) := ⟨⟨_, upd_same, ht3⟩, fun b hb => upd_ne hb⟩
    obtain ⟨bm, ob, e1, e2, e3, e4, e5, e6, e7, e8⟩ := TB.bm
    refine wpAny_builtinsFor (m := X.mg) (by rw [I.ok.glob]; exact I.mod.glob.keeps I3.bk) e1 e2 (I3.bk _ _ e5) e6 e7 e8 ?_
    intro h' hn' hs'
    obtain ⟨z, hz⟩ : ∃ z, z = ({ s2 with heap := h3, toks := tk } : Shared) := ⟨_, rfl⟩
    rw [← hz] at I3
    have zh : z.heap = h3 := by rw [hz]
    have hn' : h'.Ns h3.objs.size (fun y => if y = ".0" then some (.ref it) else none) := hn'
    have hs' : Heap.SameBut h3.objs.size (h3.push { cls := .type "frame", data := .dict #[] }) h' := hs'
    have sz' : h'.objs.size = h3.objs.size + 1 := by rw [hs'.1, Heap.size_push]
    have kp' : ∀ b o, h3.get? b = some o → h'.get? b = some o := fun b o e => hs'.extBut b o (Nat.ne_of_lt (Heap.lt_size e)) (Heap.get?_push_of_some _ e)
    have st3 : tn 0 h3 := T.keep _ _ _ st2 fun b hb o e => hx b o (nP b hb) e
    have f3 : ∀ b ∈ fp, FpOk X pins (upd H2 P (.tbl (ps ++ more))) b ∧ b < z.heap.objs.size := fun b hb => by
      obtain ⟨o, e, _⟩ := T.obj _ _ st3 b hb
      refine ⟨⟨?_, (f2 b hb).2⟩, by rw [zh]; exact Heap.lt_size e⟩
      rw [upd_ne (nP b hb)]
      exact (f2 b hb).1
    obtain ⟨W, ⟨m0, w0⟩, turn⟩ := q _ tabbed
    generalize upd H2 P (.tbl (ps ++ more)) = H3 at I3 f3 w0 turn
    -- the generator's own object
    refine hQ h'.objs.size s2.gens.size (m0 + 1) _ z H3 (gEnv X scope code h3.objs.size) fp (X.A.in1.in1.over (gCode elt tg iter scope gpos it (gEnv X scope code h3.objs.size)) [])
      { cls := .type "generator", data := .fields #[.int s2.gens.size 0, .str "<genexpr>" (tk + 1), .str (X.env.qual ++ "<genexpr>") (tk + 1 + 1)] } I3 (fun b hb => (f3 b hb).1) ⟨_, _, rfl, rfl, rfl⟩ ?_
    refine ⟨⟨_, _, _, Heap.get?_push_size _ rfl, rfl, rfl, rfl⟩, ?_, _, Array.getElem?_push_size .., gen_first T (T.keep _ _ _ st3 fun b hb o e => Heap.get?_push_of_some _ (kp' b o e)) fun s₀ => ?_⟩
    · exact I3.nolimit.keeps fun b o e => Heap.get?_push_of_some _ (kp' b o (by rw [← zh]; exact e))
    have hLs : h3.objs.size = z.heap.objs.size := by rw [zh]
    have room : Room k (X.A.in1.in1.over (gCode elt tg iter scope gpos it (gEnv X scope code h3.objs.size)) []) := over_room hr.hd (by have := hr.dp; show X.A.depth + 1 + 3 * k + 5 < _; omega) (by have := hr.un; show X.A.units + 1 + 1 + 3 + 16 * k + 200 < _; omega)
    have I4 := gen_start (x := x) (scope := scope) (code := code) (fp := fp) (A' := X.A.in1.in1.over (gCode elt tg iter scope gpos it (gEnv X scope code z.heap.objs.size)) []) (g' := (s2.gens.push (.fresh (.compStart (.GeneratorExp elt [⟨tg, iter, [], 0⟩] scope gpos) 0 (.ref it) .none (gEnv X scope code h3.objs.size)))).setIfInBounds s2.gens.size .running)
      (t' := tk + 1 + 1 + 1) (h5 := h'.push { cls := .type "generator", data := .fields #[.int s2.gens.size 0, .str "<genexpr>" (tk + 1), .str (X.env.qual ++ "<genexpr>") (tk + 1 + 1)] })
      I3 ok f3 hr.hd (over_fr I.ok.frames) (fun b o e => Heap.get?_push_of_some _ (kp' b o (by rw [← zh]; exact e))) (by rw [← hLs]; exact hn'.push _) (bare_set (I2.bare.push rfl) rfl)
    rw [← hLs] at I4
    have nofr : h'.objs.size ∉ (genX X x z H3 (gEnv X scope code h3.objs.size) fp (X.A.in1.in1.over (gCode elt tg iter scope gpos it (gEnv X scope code h3.objs.size)) [])).fs := fun hb => by
      rcases List.mem_cons.mp (I3.stkSub _ hb) with e | hb
      · have := I3.lt
        rw [← e, zh, sz'] at this
        exact absurd (Nat.lt_trans (Nat.lt_succ_self _) this) (Nat.lt_irrefl _)
      · exact I3.nofs (by rw [zh, sz']; exact Nat.le_succ _) hb
    have I5 := I4.pins_of (pins' := [(h'.objs.size, { cls := .type "generator", data := .fields #[.int s2.gens.size 0, .str "<genexpr>" (tk + 1), .str (X.env.qual ++ "<genexpr>") (tk + 1 + 1)] })]) fun p hp => by
      have e : p = _ := List.mem_singleton.mp hp
      subst e
      refine ⟨Heap.get?_push_size _ rfl, I3.hok.fresh (by rw [zh, sz']; exact Nat.le_succ _), ?_, nofr, fun v q => by cases q⟩
      show h'.objs.size ≠ h3.objs.size
      rw [sz']
      exact Nat.succ_ne_self _
    refine gen_seg (X := X) (z := z) (H := H3) ok.co T rfl (hg _ _ _ _ _ _) (he _ _ _ _ _ _ room) (fun b hb => ?_) (fun i m H1 w => turn i m H1 w) m0 (m0 + 1) 0 s₀ _ none H3 (Nat.lt_succ_self _) w0 (inv_same I5 rfl (by rw [hz]; rfl) I5.bare) (T.keep _ _ _ st3 fun b hb o e => Heap.get?_push_of_some _ (kp' b o e)) (fun b hb => (f3 b hb).1.1) ?_
    · have := (f3 b hb).2
      rw [zh] at this
      show h'.objs.size ≠ b
      rw [sz']
      intro e
      rw [← e] at this
      exact absurd (Nat.lt_trans (Nat.lt_succ_self _) this) (Nat.lt_irrefl _)
    · show s2.gens.size < (Array.setIfInBounds _ _ _).size
      rw [Array.size_setIfInBounds, Array.size_push]
      exact Nat.lt_succ_self _
  cases hf : codeAmong gpos ps.toList with
  | none =>
    refine wpAny_genexprCodeX hcode (hcd.code hPs ht) (hcd.tab hPs) hf fun c' h' tk hx hge hlt hco' _ htab' _ => ?_
    obtain ⟨o1, vs, f1, tf, fl, tg', inF, tx, tt, op, _, _, _, _, _, _, _, _, _, htr, _⟩ := hco'
    exact cont _ h' tk _ hx htab'.2 htr
  | some cv =>
    refine wpAny_genexprCode_hit hcode (hcd.code hPs ht) hf ?_
    exact cont cv s2.heap s2.toks #[] (Heap.ExtBut.refl _ _) (by rw [Array.append_empty]; exact hPs) (by rw [Array.append_empty]; exact ht)

/-- any(elt for tg in iter) -/
theorem pe_any {c P : Addr} {elt tg iter : Expr} {x : Str} {p pos gpos : Pos} {scope : Scope} {wi : TI} {gt : TG} {te : TE} {k : Nat}
    (hr : Room (k + 1) X.A) (hgl : Gl X "any") (hm : X.mg "any" = none) (TB : GxR.TabB X.base X.mg c P) (hcode : X.env.code = .ref c) (ok : GenOk X.N X.env.scope scope x) (hi : PI X tg iter wi)
    (hg : ∀ (z : Shared) (H : Hp) (code : Value) (C : Addr) (fp : List Addr) (A' : Around), PG (genX X x z H (gEnv X scope code C) fp A') tg gt)
    (he : ∀ (z : Shared) (H : Hp) (code : Value) (C : Addr) (fp : List Addr) (A' : Around), Room k A' → PE (genX X x z H (gEnv X scope code C) fp A') elt te)
    (hs : ∀ v, genFold iter X.env v = pure v := by intro _; rfl)
    (hst : starEach [.GeneratorExp elt [⟨tg, iter, [], 0⟩] scope gpos] X.env = (false, eval (.GeneratorExp elt [⟨tg, iter, [], 0⟩] scope gpos) X.env) :: starEach [] X.env := by rfl) :
    PE X (.Call (.Name "any" p) [.GeneratorExp elt [⟨tg, iter, [], 0⟩] scope gpos] [] pos) (tGen true P wi gt te) := by
  refine ⟨fun pins s σ H Q I h => ?_⟩
  refine wpAny_Call_Name_kw (ld_blt I hgl hm PyProof.Rows.boot_any ?_)
  refine PyProof.Rows.callWith_builtin1 ?_ hst (by rfl)
  rw [hst]
  refine Calls.spliced_cons (gen_made hr TB hcode ok hi hg he hs I h fun a g n s6 z H4 cenv fp A' oa I4 hfp ha hz => Calls.spliced_nil ?_)
  refine call_function_tree F.kind_any F.plain_any F.entry_any (F.args_any1 _) ?_
  unfold Builtin.«any»
  refine wpAny_bind (m := oneArg "any" _) (wpAny_pure (wpAny_bind (wpAny_pyIter_gen hz.1 ?_)))
  refine wpAny_pure ⟨plainId_quiet F.plain_any_loop _, any_turns _ (fun n s hz => ?_) n s6 hz⟩
  refine waits_next (A0 := X.A.in1) hr.hd (by have := hr.dp; show X.A.depth < _; omega) I4 hfp ha hz (fun s1 H1 J q => ?_) (fun b s1 H1 hb J q => ?_) fun b s1 m hb hm hw => ?_
  · exact ⟨.bl false, H1, J, rfl, q⟩
  · subst hb
    exact ⟨true, rfl, ⟨.bl true, H1, J, rfl, q⟩⟩
  · refine ⟨b, rfl, ?_⟩
    cases b with
    | true => exact absurd rfl hb
    | false => exact ⟨m, hm, hw⟩
/-- all(elt for tg in iter) -/
theorem pe_all {c P : Addr} {elt tg iter : Expr} {x : Str} {p pos gpos : Pos} {scope : Scope} {wi : TI} {gt : TG} {te : TE} {k : Nat}
    (hr : Room (k + 1) X.A) (hgl : Gl X "all") (hm : X.mg "all" = none) (TB : GxR.TabB X.base X.mg c P) (hcode : X.env.code = .ref c) (ok : GenOk X.N X.env.scope scope x) (hi : PI X tg iter wi)
    (hg : ∀ (z : Shared) (H : Hp) (code : Value) (C : Addr) (fp : List Addr) (A' : Around), PG (genX X x z H (gEnv X scope code C) fp A') tg gt)
    (he : ∀ (z : Shared) (H : Hp) (code : Value) (C : Addr) (fp : List Addr) (A' : Around), Room k A' → PE (genX X x z H (gEnv X scope code C) fp A') elt te)
    (hs : ∀ v, genFold iter X.env v = pure v := by intro _; rfl)
    (hst : starEach [.GeneratorExp elt [⟨tg, iter, [], 0⟩] scope gpos] X.env = (false, eval (.GeneratorExp elt [⟨tg, iter, [], 0⟩] scope gpos) X.env) :: starEach [] X.env := by rfl) :
    PE X (.Call (.Name "all" p) [.GeneratorExp elt [⟨tg, iter, [], 0⟩] scope gpos] [] pos) (tGen false P wi gt te) := by
  refine ⟨fun pins s σ H Q I h => ?_⟩
  refine wpAny_Call_Name_kw (ld_blt I hgl hm PyProof.Rows.boot_all ?_)
  refine PyProof.Rows.callWith_builtin1 ?_ hst (by rfl)
  rw [hst]
  refine Calls.spliced_cons (gen_made hr TB hcode ok hi hg he hs I h fun a g n s6 z H4 cenv fp A' oa I4 hfp ha hz => Calls.spliced_nil ?_)
  refine call_function_tree F.kind_all F.plain_all F.entry_all (F.args_all1 _) ?_
  unfold Builtin.«all»
  refine wpAny_bind (m := oneArg "all" _) (wpAny_pure (wpAny_bind (wpAny_pyIter_gen hz.1 ?_)))
  refine wpAny_pure ⟨plainId_quiet F.plain_all_loop _, all_turns _ (fun n s hz => ?_) n s6 hz⟩
  refine waits_next (A0 := X.A.in1) hr.hd (by have := hr.dp; show X.A.depth < _; omega) I4 hfp ha hz (fun s1 H1 J q => ?_) (fun b s1 H1 hb J q => ?_) fun b s1 m hb hm hw => ?_
  · exact ⟨.bl true, H1, J, rfl, q⟩
  · subst hb
    exact ⟨false, rfl, ⟨.bl false, H1, J, rfl, q⟩⟩
  · refine ⟨b, rfl, ?_⟩
    cases b with
    | false => exact absurd rfl hb
    | true => exact ⟨m, hm, hw⟩
end
end GX

set_option Elab.async false
set_option linter.all false
set_option maxRecDepth 100000
set_option maxHeartbeats 2000000
/-! DL3: items, membership, calls, iteration, comprehensions, any and all. -/
namespace DL
open PySem PySem.Spec L2

section
variable {X : Cx} {Tb : List Addr} {δ : Dl} {a b c e o i : Expr} {es : List Expr} {pos pos' : Pos} {P P' : D → Prop}
theorem wpE_chain {op op' : CmpOp} {r r' : R2} {R R' : D → D → (D → Prop) → Prop} (ho : OpR X (compareOp op) r) (ho' : OpR X (compareOp op') r') (hr : Ok2 X Tb r R) (hr' : Ok2 X Tb r' R')
    (h : wpE X Tb a δ fun d1 => wpE X Tb b δ fun d2 => R d1 d2 fun d3 => ∃ k, d3 = .bool k ∧ if k = true then wpE X Tb c δ fun d4 => R' d2 d4 P else P (.bool false)) (hm : lastMarks [op, op'] [b, c] = false := by rfl) : wpE X Tb (.Compare a [op, op'] [b, c] pos) δ P := fun B O0 M Lk σ τ H I Q q =>
  sem_e (pe_chain ho ho' pe_sem pe_sem pe_sem hm) (h B O0 M Lk σ τ H I _ fun x d1 H1 I1 h1 => h1 B O0 M Lk σ _ H1 I1 _ fun y d2 H2 I2 h2 => by
    obtain ⟨O, J⟩ := I2
    have rx := J.tmp _ (List.mem_cons_of_mem _ List.mem_cons_self)
    have ry := J.tmp _ List.mem_cons_self
    refine hr J rx ry h2 _ fun v d H' J' h3 => ?_
    obtain ⟨k, rfl, h3⟩ := h3
    obtain ⟨O', J'⟩ := J'
    obtain ⟨J1, rk⟩ := J'.pop1
    cases rk
    refine ⟨k, rfl, ?_⟩
    cases k with
    | true =>
      refine h3 B O0 M Lk σ _ H' ⟨O', J1⟩ _ fun u d4 H4 J4 h4 => ?_
      · obtain ⟨O4, J4⟩ := J4
        have ru := J4.tmp _ List.mem_cons_self
        have rv := J4.tmp _ (List.mem_cons_of_mem _ List.mem_cons_self)
        exact hr' (J4.drops (τ' := τ) fun p hp => by simp [hp]) rv ru h4 Q q
    | false => exact q _ _ H' ⟨O', (J1.drops (τ' := τ) fun p hp => by simp [hp]).push (.bl _)⟩ h3)
theorem wpT_chain {op op' : CmpOp} {r r' : R2} {R R' : D → D → (D → Prop) → Prop} {P : Bool → Prop} (ho : OpR X (compareOp op) r) (ho' : OpR X (compareOp op') r') (hr : Ok2 X Tb r R) (hr' : Ok2 X Tb r' R')
    (h : wpE X Tb a δ fun d1 => wpE X Tb b δ fun d2 => R d1 d2 fun d3 => ∃ k, d3 = .bool k ∧ if k = true then wpE X Tb c δ fun d4 => R' d2 d4 fun d => ∃ k, d = .bool k ∧ P k else P false) (hm : lastMarks [op, op'] [b, c] = false := by rfl) : wpT X Tb (.Compare a [op, op'] [b, c] pos) δ P := fun B O0 M Lk σ τ H I Q q =>
  sem_t (pt_chain ho ho' pe_sem pe_sem pe_sem hm) (h B O0 M Lk σ τ H I _ fun x d1 H1 I1 h1 => h1 B O0 M Lk σ _ H1 I1 _ fun y d2 H2 I2 h2 => by
    obtain ⟨O, J⟩ := I2
    have rx := J.tmp _ (List.mem_cons_of_mem _ List.mem_cons_self)
    have ry := J.tmp _ List.mem_cons_self
    refine hr J rx ry h2 _ fun v d H' J' h3 => ?_
    obtain ⟨k, rfl, h3⟩ := h3
    obtain ⟨O', J'⟩ := J'
    obtain ⟨J1, rk⟩ := J'.pop1
    cases rk
    refine ⟨k, rfl, ?_⟩
    cases k with
    | true =>
      refine h3 B O0 M Lk σ _ H' ⟨O', J1⟩ _ fun u d4 H4 J4 h4 => ?_
      · obtain ⟨O4, J4⟩ := J4
        have ru := J4.tmp _ List.mem_cons_self
        have rv := J4.tmp _ (List.mem_cons_of_mem _ List.mem_cons_self)
        refine hr' (J4.drops (τ' := τ) fun p hp => by simp [hp]) rv ru h4 _ fun v d H' J' h3 => ?_
        obtain ⟨k, rfl, h3⟩ := h3
        obtain ⟨O', J'⟩ := J'
        obtain ⟨J1, rk⟩ := J'.pop1
        cases rk
        exact ⟨k, rfl, q k H' ⟨O', J1⟩ h3⟩
    | false => exact ⟨false, rfl, q false H' ⟨O', J1.drops (τ' := τ) fun p hp => by simp [hp]⟩ h3⟩)

/-! ### items -/
def ixR : D → D → (D → Prop) → Prop
  | .tuple ds, .int i, P => ∃ d, atI ds i = some d ∧ P d
  | .list ds, .int i, P => ∃ d, atI ds i = some d ∧ P d
  | .str z, .int i, P => ∃ c, z.length ≤ sizeLine ∧ atI z.cps.toList i = some c ∧ P (.str ⟨#[c]⟩)
  | _, _, _ => False
theorem RpA.at' {H : Hp} {vs : List V} {ds : List D} {i : Int} {d : D} (r : RpA H vs ds) (h : atI ds i = some d) : ∃ v, atI vs i = some v ∧ Rp H v d := by
  unfold atI at h ⊢
  rw [r.length]
  cases e : ixN ds.length i with
  | none => rw [e] at h; cases h
  | some j => rw [e] at h; exact r.get (i := j) h
theorem ok_ix : Ok2 X Tb (rIx X.K) ixR := by
  intro B O0 M Lk O δ σ τ H x y d1 d2 P I rx ry h Q q
  unfold ixR at h
  split at h
  · obtain ⟨p, xs, rfl, hp, rp⟩ := rx.tuple'
    rw [ry.int']
    obtain ⟨d, hd, h⟩ := h
    obtain ⟨v, hv, rv⟩ := rp.at' hd
    exact .inr (.inl ⟨p, xs, _, v, rfl, rfl, SqT.of (vis_some hp).2, hv, q _ _ H ⟨O, I.push rv⟩ h⟩)
  · obtain ⟨p, xs, rfl, hp, rp⟩ := rx.list'
    rw [ry.int']
    obtain ⟨d, hd, h⟩ := h
    obtain ⟨v, hv, rv⟩ := rp.at' hd
    exact .inl ⟨p, xs, _, v, rfl, rfl, SqL.of (vis_some hp).2, hv, q _ _ H ⟨O, I.push rv⟩ h⟩
  · rw [rx.str', ry.int']
    obtain ⟨c, h1, h2, h⟩ := h
    exact .inr (.inr ⟨_, _, c, rfl, rfl, h1, h2, q _ _ H ⟨O, I.push (.str _)⟩ h⟩)
  · exact h.elim
theorem wpE_ix (h : wpE X Tb a δ fun d1 => wpE X Tb b δ fun d2 => ixR d1 d2 P) (hs : PlainIx b := by intro _ _; rfl) : wpE X Tb (.Subscript a b pos) δ P := fun B O0 M Lk σ τ H I Q q =>
  sem_e (pe_ix ix_seq pe_sem pe_sem hs) (h B O0 M Lk σ τ H I _ fun x d1 H1 I1 h1 => h1 B O0 M Lk σ _ H1 I1 _ fun y d2 H2 I2 h2 => by
    obtain ⟨O, J⟩ := I2
    obtain ⟨J0, rx, ry⟩ := J.pop2
    exact ok_ix J0 rx ry h2 Q q)
/-- the value under a key -/
def dlook (k : D) : List (D × D) → Option D
  | [] => none
  | p :: r => match p.1, k with
    | .int i, .int j => if i = j then some p.2 else dlook k r
    | .str x, .str y => if x = y then some p.2 else dlook k r
    | _, _ => dlook k r
def keyOf : D → Option Key
  | .int i => some (.inl i)
  | .str x => some (.inr x)
  | _ => none
theorem look_of {H : Hp} {k : Key} : ∀ {kvs : List (Key × V)} {ds : List (D × D)}, RpK H kvs ds → (∀ d, dlook (kD k) ds = some d → ∃ v, valV kvs k = some v ∧ Rp H v d) ∧ (dlook (kD k) ds = none → valV kvs k = none)
  | _, _, .nil => ⟨fun d h => (by cases h), fun _ => rfl⟩
  | _, _, .cons (k := k') (v := v) (d := d') h r => by
    have ih := look_of (k := k) r
    have pos : k' = k → ∀ ds, dlook (kD k) ((kD k', d') :: ds) = some d' := fun e ds => by
      subst e
      cases k' <;> simp [dlook, kD]
    have neg : ¬ k' = k → ∀ ds, dlook (kD k) ((kD k', d') :: ds) = dlook (kD k) ds := fun e ds => by
      cases k' <;> cases k <;> simp only [dlook, kD]
      · rw [if_neg fun q => e (by rw [q])]
      · rw [if_neg fun q => e (by rw [q])]
    by_cases e : k' = k
    · rw [pos e]
      refine ⟨fun d hd => ?_, fun hd => (by cases hd)⟩
      cases hd
      exact ⟨v, valV_pos e, h⟩
    · rw [neg e]
      refine ⟨fun d hd => ?_, fun hd => ?_⟩
      · obtain ⟨u, h1, h2⟩ := ih.1 d hd
        exact ⟨u, by rw [valV_neg e]; exact h1, h2⟩
      · rw [valV_neg e]
        exact ih.2 hd
theorem Rp.dictL {H : Hp} {v : V} {k : Key} {ds : List (D × D)} {d : D} (h : Rp H v (.dict ds)) (hd : dlook (kD k) ds = some d) : ∃ a kvs, v = .ref a ∧ Rd H a (.dK kvs) ∧ (kvs.map (·.1)).Nodup ∧ RpK H kvs ds := by
  cases h with
  | dic h n r => exact ⟨_, _, rfl, h, n, r⟩
  | ins h n r => cases k <;> cases hd
def dixR : D → D → (D → Prop) → Prop
  | .dict kvs, k, P => ∃ d, dlook k kvs = some d ∧ (∃ k', k = kD k') ∧ P d
  | _, _, _ => False
theorem Rp.key {H : Hp} {v : V} {k : Key} (h : Rp H v (kD k)) : v = kV k := by
  cases k with
  | inl i => exact h.int'
  | inr x => exact h.str'
theorem wpE_dix (hu : X.A.units + 1 < cLine) (h : wpE X Tb o δ fun d1 => wpE X Tb i δ fun d2 => dixR d1 d2 P) (hs : NoSl i := by intro _ _; rfl) : wpE X Tb (.Subscript o i pos) δ P := fun B O0 M Lk σ τ H I Q q =>
  sem_e (pe_dget hu pe_sem pe_sem hs) (h B O0 M Lk σ τ H I _ fun x d1 H1 I1 h1 => h1 B O0 M Lk σ _ H1 I1 _ fun y d2 H2 I2 h2 => by
    obtain ⟨O, J⟩ := I2
    obtain ⟨J0, rx, ry⟩ := J.pop2
    have h2 : dixR d1 d2 P := h2
    unfold dixR at h2
    split at h2
    · obtain ⟨d, hd, ⟨k, rfl⟩, h3⟩ := h2
      obtain ⟨p, kvs, rfl, hp, _, rk⟩ := rx.dictL hd
      obtain ⟨v, hv, rv⟩ := (look_of rk).1 d hd
      have hp' : Rd H2 p (.dK kvs) := hp.elim (fun e => .inl (vis_some e).2) fun ⟨o, e⟩ => .inr ⟨o, (vis_some e).2⟩
      refine ⟨p, v, rfl, .inl ⟨kvs, k, hp', ry.key, hv.symm⟩, q _ _ H2 ⟨O, J0.push rv⟩ h3⟩
    · exact h2.elim)
/-- k in d -/
def dinR : D → D → (D → Prop) → Prop
  | k, .dict kvs, P => ((∃ k', k = kD k') ∧ isM kvs = false) ∧ P (.bool (dlook k kvs).isSome)
  | _, _, _ => False
theorem dget_of {O : List Addr} {H : Hp} {x y : V} {k : D} {kvs : List (D × D)} (rx : Rp (vis O H) x k) (ry : Rp (vis O H) y (.dict kvs)) (hk : (∃ k', k = kD k') ∧ isM kvs = false) : ∃ a r, y = .ref a ∧ DGet H a x r ∧ r.isSome = (dlook k kvs).isSome := by
  obtain ⟨⟨k, rfl⟩, hm⟩ := hk
  obtain ⟨p, ks, rfl, hp, _, rk⟩ := ry.dict' hm
  have hp' : Rd H p (.dK ks) := hp.elim (fun e => .inl (vis_some e).2) fun ⟨o, e⟩ => .inr ⟨o, (vis_some e).2⟩
  refine ⟨p, valV ks k, rfl, .inl ⟨ks, k, hp', rx.key, rfl⟩, ?_⟩
  cases e : dlook (kD k) kvs with
  | none => rw [(look_of rk).2 e]; rfl
  | some d =>
    obtain ⟨v, hv, _⟩ := (look_of rk).1 d e
    rw [hv]
    rfl
theorem wpE_din (hu : X.A.units + 1 < cLine) (h : wpE X Tb a δ fun d1 => wpE X Tb b δ fun d2 => dinR d1 d2 P) (hm : behindInMarks .In b = false := by rfl) : wpE X Tb (.Compare a [.In] [b] pos) δ P := fun B O0 M Lk σ τ H I Q q =>
  sem_e (pe_cmp (pc_din hu pe_sem pe_sem) hm) (h B O0 M Lk σ τ H I _ fun x d1 H1 I1 h1 => h1 B O0 M Lk σ _ H1 I1 _ fun y d2 H2 I2 h2 => by
    obtain ⟨O, J⟩ := I2
    obtain ⟨J0, rx, ry⟩ := J.pop2
    have h2 : dinR d1 d2 P := h2
    unfold dinR at h2
    split at h2
    · obtain ⟨p, r, rfl, hg, he⟩ := dget_of rx ry h2.1
      refine ⟨p, r, rfl, hg, ?_⟩
      rw [he]
      exact q _ _ H2 ⟨O, J0.push (.bl _)⟩ h2.2
    · exact h2.elim)

/-- x in a list, a tuple (of flat things), a sign in a text -/
def flatD : D → Bool
  | .none => true
  | .bool _ => true
  | .int _ => true
  | .str _ => true
  | _ => false
def eqF : D → D → Bool
  | .none, .none => true
  | .bool a, .bool b => a == b
  | .bool a, .int b => (if a = true then 1 else 0) == b
  | .int a, .bool b => a == if b = true then 1 else 0
  | .int a, .int b => a == b
  | .str a, .str b => a == b
  | _, _ => false
theorem flat_of {H : Hp} {v : V} {d : D} (h : Rp H v d) (f : flatD d = true) : flatV v = true := by cases h <;> first | rfl | cases f
theorem eqF_of {H : Hp} {v u : V} {d e : D} (h : Rp H v d) (h' : Rp H u e) (f : flatD d = true) (f' : flatD e = true) : eqV v u = eqF d e := by
  cases h
  case lst => cases f
  case tup => cases f
  case dic => cases f
  all_goals
    cases h'
    case lst => cases f'
    case tup => cases f'
    case dic => cases f'
    all_goals rfl
theorem flatA_of {H : Hp} : ∀ {vs : List V} {ds : List D}, RpA H vs ds → ds.all flatD = true → vs.all flatV = true
  | _, _, .nil, _ => rfl
  | _, _, .cons h r, f => by
    rw [List.all_cons, Bool.and_eq_true] at f ⊢
    exact ⟨flat_of h f.1, flatA_of r f.2⟩
theorem inF_of {H : Hp} {v : V} {d : D} (h : Rp H v d) (f : flatD d = true) : ∀ {vs : List V} {ds : List D}, RpA H vs ds → ds.all flatD = true → inV v vs = ds.any fun y => eqF y d
  | _, _, .nil, _ => rfl
  | _, _, .cons h2 r, f2 => by
    rw [List.all_cons, Bool.and_eq_true] at f2
    have ih := inF_of h f r f2.2
    unfold inV at ih ⊢
    rw [List.any_cons, List.any_cons, ih, eqF_of h2 h f2.1 f]
def inR (neg : Bool) : D → D → (D → Prop) → Prop
  | x, .list ds, P => (flatD x = true ∧ ds.all flatD = true) ∧ P (.bool (if neg then !(ds.any fun y => eqF y x) else ds.any fun y => eqF y x))
  | x, .tuple ds, P => (flatD x = true ∧ ds.all flatD = true) ∧ P (.bool (if neg then !(ds.any fun y => eqF y x) else ds.any fun y => eqF y x))
  | _, _, _ => False
theorem ok_in (neg : Bool) : Ok2 X Tb (rIn X.K neg) (inR neg) := by
  intro B O0 M Lk O δ σ τ H x y d1 d2 P I rx ry h Q q
  unfold inR at h
  split at h
  · obtain ⟨p, xs, rfl, hp, rp⟩ := ry.list'
    refine ⟨p, xs, rfl, .inl (SqL.of (vis_some hp).2), flat_of rx h.1.1, flatA_of rp h.1.2, ?_⟩
    rw [inF_of rx h.1.1 rp h.1.2]
    exact q _ _ H ⟨O, I.push (.bl _)⟩ h.2
  · obtain ⟨p, xs, rfl, hp, rp⟩ := ry.tuple'
    refine ⟨p, xs, rfl, .inr (SqT.of (vis_some hp).2), flat_of rx h.1.1, flatA_of rp h.1.2, ?_⟩
    rw [inF_of rx h.1.1 rp h.1.2]
    exact q _ _ H ⟨O, I.push (.bl _)⟩ h.2
  · exact h.elim

/-! ### built-ins -/
def lenR : List D → (D → Prop) → Prop
  | [.list ds], P => P (.int ds.length)
  | [.tuple ds], P => P (.int ds.length)
  | [.str z], P => z.length ≤ sizeLine ∧ P (.int z.length)
  | [.dict ks], P => P (.int ks.length)
  | _, _ => False
theorem ok_len : OkC X Tb (fun xs H Q => (∃ x n, xs = [x] ∧ LenV X.K x H n ∧ Q (.int n) H) ∨ ∃ a kvs, xs = [V.ref a] ∧ H a = some (.dK kvs) ∧ Q (.int kvs.length) H) (fun ds P => (∀ ks, ds ≠ [.dict ks]) ∧ lenR ds P) := by
  intro B O0 M Lk O δ σ τ H vs ds P I r h Q q
  obtain ⟨hn, h⟩ := h
  unfold lenR at h
  split at h
  · obtain ⟨v, rfl, rv⟩ := r.one'
    obtain ⟨p, xs, rfl, hp, rp⟩ := rv.list'
    refine .inl ⟨_, _, rfl, .inl ⟨xs, SqL.of (vis_some hp).2, rp.length.symm⟩, q _ _ H ⟨O, I.push (.int _)⟩ h⟩
  · obtain ⟨v, rfl, rv⟩ := r.one'
    obtain ⟨p, xs, rfl, hp, rp⟩ := rv.tuple'
    refine .inl ⟨_, _, rfl, .inr ⟨xs, SqT.of (vis_some hp).2, rp.length.symm⟩, q _ _ H ⟨O, I.push (.int _)⟩ h⟩
  · obtain ⟨v, rfl, rv⟩ := r.one'
    rw [rv.str']
    exact .inl ⟨_, _, rfl, ⟨h.1, rfl⟩, q _ _ H ⟨O, I.push (.int _)⟩ h.2⟩
  · exact absurd rfl (hn _)
  · exact h.elim
theorem call_lenX : CallR X (.builtin "len") (fun xs H Q => (∃ x n, xs = [x] ∧ LenV X.K x H n ∧ Q (.int n) H) ∨ ∃ a kvs, xs = [V.ref a] ∧ H a = some (.dK kvs) ∧ Q (.int kvs.length) H) := CallR.or call_len L2.call_lenD
def maxR : List D → (D → Prop) → Prop
  | [.int i, .int j], P => P (.int (max i j))
  | _, _ => False
def minR : List D → (D → Prop) → Prop
  | [.int i, .int j], P => P (.int (min i j))
  | _, _ => False
def absR : List D → (D → Prop) → Prop
  | [.int i], P => P (.int (if i < 0 then -i else i))
  | _, _ => False
def intR : List D → (D → Prop) → Prop
  | [.int i], P => P (.int i)
  | [.bool k], P => P (.int (if k then 1 else 0))
  | _, _ => False
theorem ok_max : OkC X Tb (fun xs H Q => ∃ i j, xs = [.int i, .int j] ∧ Q (.int (if j > i then j else i)) H) maxR := by
  intro B O0 M Lk O δ σ τ H vs ds P I r h Q q
  unfold maxR at h
  split at h
  · rename_i i j
    obtain ⟨v, u, rfl, rv, ru⟩ := r.two'
    rw [rv.int', ru.int']
    have e : (if j > i then j else i) = max i j := by split <;> omega
    refine ⟨i, j, rfl, ?_⟩
    rw [e]
    exact q _ _ H ⟨O, I.push (.int _)⟩ h
  · exact h.elim
theorem ok_min : OkC X Tb (fun xs H Q => ∃ i j, xs = [.int i, .int j] ∧ Q (.int (if j < i then j else i)) H) minR := by
  intro B O0 M Lk O δ σ τ H vs ds P I r h Q q
  unfold minR at h
  split at h
  · rename_i i j
    obtain ⟨v, u, rfl, rv, ru⟩ := r.two'
    rw [rv.int', ru.int']
    have e : (if j < i then j else i) = min i j := by split <;> omega
    refine ⟨i, j, rfl, ?_⟩
    rw [e]
    exact q _ _ H ⟨O, I.push (.int _)⟩ h
  · exact h.elim
theorem ok_abs : OkC X Tb (fun xs H Q => ∃ i, xs = [.int i] ∧ Q (.int (if i < 0 then -i else i)) H) absR := by
  intro B O0 M Lk O δ σ τ H vs ds P I r h Q q
  unfold absR at h
  split at h
  · obtain ⟨v, rfl, rv⟩ := r.one'
    rw [rv.int']
    exact ⟨_, rfl, q _ _ H ⟨O, I.push (.int _)⟩ h⟩
  · exact h.elim
theorem ok_int : OkC X Tb (fun xs H Q => (∃ i, xs = [.int i] ∧ Q (.int i) H) ∨ ∃ k, xs = [.bl k] ∧ Q (.int (if k then 1 else 0)) H) intR := by
  intro B O0 M Lk O δ σ τ H vs ds P I r h Q q
  unfold intR at h
  split at h
  · obtain ⟨v, rfl, rv⟩ := r.one'
    rw [rv.int']
    exact .inl ⟨_, rfl, q _ _ H ⟨O, I.push (.int _)⟩ h⟩
  · obtain ⟨v, rfl, rv⟩ := r.one'
    rw [rv.bool']
    exact .inr ⟨_, rfl, q _ _ H ⟨O, I.push (.int _)⟩ h⟩
  · exact h.elim
end
end DL

set_option Elab.async false
set_option linter.all false
set_option maxRecDepth 100000
set_option maxHeartbeats 2000000
/-! DL4: promises and calls of defs, statements. -/
namespace DL
open PySem PySem.Spec L2

/-! ### promises: m feeds (0 or 1), then n data -/
def spD (Tb : List Addr) (m n : Nat) (pre : List D → Prop) (post : List D → D → Prop) : Sp := fun vs H Q _ => ∃ (O0 M : List Addr) (ws : List V) (ds : List D),
  vs = M.map V.ref ++ ws ∧ M.length = m ∧ (∀ p ∈ M, p ∈ O0) ∧ (∀ p ∈ O0, H p ≠ none) ∧ (∀ f ∈ M, FeedAt H f) ∧ (∀ P ∈ Tb, GxR.TabG H P) ∧ RpA (vis O0 H) ws ds ∧ ds.length = n ∧ pre ds ∧
  ∀ v d H', Gr M [] H H' → Nf H H' → (∀ f ∈ M, FeedAt H' f) → Rp (vis O0 H') v d → post ds d → Q v H'

section
variable {X : Cx} {Tb : List Addr} {δ : Dl} {a b c e o i : Expr} {es : List Expr} {pos pos' p : Pos} {P P' : D → Prop} {x : Str} {fA : Addr} {fd : FuncData} {k m n : Nat} {ps : List Str} {pre : List D → Prop} {post : List D → D → Prop}
theorem wpE_call (F : FnOk X.prog X.w X.K X.mg X.base CX0 k fA fd ps (spD Tb 0 n pre post)) (hr : Room k X.A) (hm : X.mg x = some (.ref fA)) (hk : PySem.W.keepIn X.K (.ref fA) = true) (hb : Binds X.K fd ps [])
    (h : wpA X Tb (e :: es) δ fun ds => ds.length = n ∧ pre ds ∧ ∀ d, post ds d → P d) (hg : Gl X x := by rfl) (hdb : (x == ("__debug__" : Str)) = false := by decide) (he : starEach (e :: es) X.env = (false, eval e X.env) :: starEach es X.env := by rfl) (hpl : (backTo pos (starEach es X.env)).any (·.1) = false := by rfl) :
    wpE X Tb (.Call (.Name x p) (e :: es) [] pos) δ P := fun B O0 M Lk σ τ H I Q q =>
  sem_e (pe_call F hr hg hm hk hb .nil (pass0 (X := X)) pa_sem hdb he hpl) (h B O0 M Lk σ τ H I _ fun ps H1 J h1 => by
    obtain ⟨O, J⟩ := J
    obtain ⟨J0, r⟩ := J.popA
    obtain ⟨h1, h2, h3⟩ := h1
    refine ⟨O, [], ps.map (·.1), ps.map (·.2), List.append_nil _, rfl, (fun _ z => nomatch z), J.live, (fun _ z => nomatch z), J.tabs, r, h1, h2, fun v d H' g nf _ rv hp => ?_⟩
    exact q v d H' ⟨O, (J0.grow g (fun _ z => nomatch z) (fun _ z => nomatch z) (fun _ z => nomatch z) (fun _ z => nomatch z) nf).push rv⟩ (h3 d hp))
/-- f(feed, ..): the feed stands in slot j -/
theorem wpE_callF {y : Str} {py : Pos} (j : Nat) (F : FnOk X.prog X.w X.K X.mg X.base CX0 k fA fd ps (spD Tb 1 n pre post)) (hr : Room k X.A) (hm : X.mg x = some (.ref fA)) (hk : PySem.W.keepIn X.K (.ref fA) = true) (hb : Binds X.K fd ps [])
    (hj : δ[j]? = some (some (.own .feed))) (h : wpA X Tb es δ fun ds => ds.length = n ∧ pre ds ∧ ∀ d, post ds d → P d) (hN : X.N[j]? = some y := by rfl)
    (hv : Vis X.env.scope y := by first | exact Or.inl rfl | exact Or.inr (Or.inl rfl) | exact Or.inr (Or.inr rfl)) (hd1 : (y == ("__debug__" : Str)) = false := by decide) (hd2 : (y == ("__classdict__" : Str)) = false := by decide)
    (hg : Gl X x := by rfl) (hdb : (x == ("__debug__" : Str)) = false := by decide) (he : starEach (.Name y py :: es) X.env = (false, eval (.Name y py) X.env) :: starEach es X.env := by rfl) (hpl : (backTo pos (starEach es X.env)).any (·.1) = false := by rfl) :
    wpE X Tb (.Call (.Name x p) (.Name y py :: es) [] pos) δ P := fun B O0 M Lk σ τ H I Q q => by
  refine sem_e (pe_call F hr hg hm hk hb .nil (pass0 (X := X)) (pa_cons (pe_var hN hv hd1 hd2) pa_sem he) hdb he hpl) ?_
  obtain ⟨O, I⟩ := I
  obtain ⟨v0, e0, f, rfl, hfO, hfB, _, hfd⟩ := I.slots j _ hj
  refine ⟨.ref f, e0, h B O0 M Lk σ τ H ⟨O, I⟩ _ fun ps H1 J h1 => ?_⟩
  obtain ⟨O1, J⟩ := J
  obtain ⟨J0, r⟩ := J.popA
  obtain ⟨h1, h2, h3⟩ := h1
  obtain ⟨v1, e1, f1, e2, hfO1, hfB1, _, hfd1⟩ := J0.slots j _ hj
  have ev : V.ref f = v1 := by
    have := e0.symm.trans e1
    exact Option.some.inj (Option.some.inj this)
  rw [e2] at ev
  obtain rfl : f = f1 := V.ref.inj ev
  refine ⟨O1, [f], ps.map (·.1), ps.map (·.2), ?_, rfl, (fun p hp => ?_), J.live, (fun g hg => ?_), J.tabs, r, h1, h2, fun v d H' g nf hf rv hp => ?_⟩
  · show (.ref f :: _) ++ ([] : List V) = .ref f :: ([] ++ _)
    rw [List.append_nil, List.nil_append]
  · rw [List.mem_singleton.mp hp]; exact hfO1
  · rw [List.mem_singleton.mp hg]; exact hfd1
  · refine q v d H' ⟨O1, (J0.grow g hf (fun g' hg' => ?_) (fun g' hg' i o ho hs => ?_) (fun g' hg' p hp z => ?_) nf (fun g' hg' i o e z => J0.inn.own i j o .feed e hj f (by rw [← List.mem_singleton.mp hg']; exact z) e0)).push rv⟩ (h3 d hp)
    · rw [List.mem_singleton.mp hg']; exact ⟨hfO1, hfB1, hfd1⟩
    · rw [List.mem_singleton.mp hg'] at hs
      obtain rfl := J0.sep i j o .feed f ho hj hs e0
      rw [hj] at ho
      cases ho
      rfl
    · rw [List.mem_singleton.mp hg'] at z
      exact (J0.hid p hp).2.2.2 j _ hj (by rw [z]; exact e0)
end

/-- a target takes a value -/
structure semG (X : Cx) (tg : Expr) (v : V) (σ : L2.St) (H : Hp) (Q : L2.St → Hp → Prop) : Prop where
  run : ∀ pins s u, Inv X pins σ H s → RelV v u → wpAny (model X.prog X.w) X.A (assign tg X.env u) (fun _ s' => ∃ σ' H', Inv X pins σ' H' s' ∧ Q σ' H') X.xe s
/-! ### statements -/
structure Rs where
  nx : Dl → Prop
  rt : D → Prop
  bk : Dl → Prop := fun _ => False
  ct : Dl → Prop := fun _ => False
structure Ret (G : Glo) (B : Hp) (O0 M : List Addr) (Lk : Lks) (v : V) (H : Hp) (d : D) : Prop where
  gr : Gr M (Lk.1.map (·.1)) B H
  feeds : ∀ f ∈ M, FeedAt H f
  rp : Rp (vis O0 H) v d
  lck : ∀ p ∈ Lk.1, p.1 ∉ O0 ∧ H p.1 = some (.frz p.2.1 p.2.2)
  nof : ∀ a od u, H a = some (.frz od u) → B a ≠ none ∨ a ∈ Lk.1.map (·.1)
def Es (G : Glo) (B : Hp) (O0 M : List Addr) (Lk : Lks) (τ : List (V × D)) (R : Rs) : Ends :=
  ⟨fun σ' H' => ∃ δ', At G B O0 M Lk δ' σ' τ H' ∧ R.nx δ', fun v H' => ∃ d, Ret G B O0 M Lk v H' d ∧ R.rt d, fun σ' H' => ∃ δ', At G B O0 M Lk δ' σ' τ H' ∧ R.bk δ', fun σ' H' => ∃ δ', At G B O0 M Lk δ' σ' τ H' ∧ R.ct δ'⟩
section
variable (X : Cx) (Tb : List Addr)
def wpS (st : Stmt) (δ : Dl) (R : Rs) : Prop := ∀ B O0 M Lk σ τ H, At (GX X Tb) B O0 M Lk δ σ τ H → semS X st (Es (GX X Tb) B O0 M Lk τ R) σ H
def wpSs (st : List Stmt) (δ : Dl) (R : Rs) : Prop := ∀ B O0 M Lk σ τ H, At (GX X Tb) B O0 M Lk δ σ τ H → semSs X st (Es (GX X Tb) B O0 M Lk τ R) σ H
/-- a target takes d -/
def wpG (tg : Expr) (d : D) (δ : Dl) (P : Dl → Prop) : Prop := ∀ B O0 M Lk σ τ H v, At (GX X Tb) B O0 M Lk δ σ ((v, d) :: τ) H → ∀ Q : L2.St → Hp → Prop, (∀ δ' σ' H', At (GX X Tb) B O0 M Lk δ' σ' τ H' → P δ' → Q σ' H') →
  semG X tg v σ H Q
end
structure Ends.Le (D D' : Ends) : Prop where
  nx : ∀ σ H, D.nx σ H → D'.nx σ H
  rt : ∀ v H, D.rt v H → D'.rt v H
  bk : ∀ σ H, D.bk σ H → D'.bk σ H
  ct : ∀ σ H, D.ct σ H → D'.ct σ H
section
variable {X : Cx} {Tb : List Addr} {δ : Dl} {a b c e o i : Expr} {es : List Expr} {pos pos' p : Pos} {P P' : D → Prop} {st : Stmt} {sts : List Stmt} {R R' : Rs}
theorem SP.le {D D' : Ends} {pins : List (Addr × Obj)} {f : Flow} {s : Shared} (l : Ends.Le D D') (h : SP X pins D f s) : SP X pins D' f s := by
  cases f with
  | next => obtain ⟨σ', H', I, q⟩ := h; exact ⟨σ', H', I, l.nx _ _ q⟩
  | brk => obtain ⟨σ', H', I, q⟩ := h; exact ⟨σ', H', I, l.bk _ _ q⟩
  | cont => obtain ⟨σ', H', I, q⟩ := h; exact ⟨σ', H', I, l.ct _ _ q⟩
  | ret u => obtain ⟨v, σ', H', I, r, q⟩ := h; exact ⟨v, σ', H', I, r, l.rt _ _ q⟩
theorem semS_le {D D' : Ends} {σ : L2.St} {H : Hp} (l : Ends.Le D D') (h : semS X st D σ H) : semS X st D' σ H := ⟨fun pins s I => thn (h.run pins s I) fun _ _ q => SP.le l q⟩
theorem semSs_le {D D' : Ends} {σ : L2.St} {H : Hp} (l : Ends.Le D D') (h : semSs X sts D σ H) : semSs X sts D' σ H := ⟨fun pins s I => thn (h.run pins s I) fun _ _ q => SP.le l q⟩
theorem wpSs_nil (h : R.nx δ) : wpSs X Tb [] δ R := fun B O0 M Lk σ τ H I => sem_ss pss_nil ⟨δ, I, h⟩
theorem wpSs_cons (h : wpS X Tb st δ ⟨fun δ' => wpSs X Tb sts δ' R, R.rt, R.bk, R.ct⟩) : wpSs X Tb (st :: sts) δ R := fun B O0 M Lk σ τ H I =>
  sem_ss (pss_cons ps_sem pss_sem) (by
    have h0 := h B O0 M Lk σ τ H I
    refine semS_le ?_ h0
    exact ⟨fun _ _ ⟨δ', J, q⟩ => q B O0 M Lk _ τ _ J, fun _ _ q => q, fun _ _ q => q, fun _ _ q => q⟩)
theorem wpSs_one (h : wpS X Tb st δ R) : wpSs X Tb [st] δ R := fun B O0 M Lk σ τ H I => sem_ss (pss_one ps_sem) (h B O0 M Lk σ τ H I)
theorem wpS_pass (h : R.nx δ) : wpS X Tb (.Pass pos) δ R := fun B O0 M Lk σ τ H I => sem_s ps_pass ⟨δ, I, h⟩
theorem wpS_break (h : R.bk δ) : wpS X Tb (.Break pos) δ R := fun B O0 M Lk σ τ H I => sem_s ps_break ⟨δ, I, h⟩
theorem wpS_continue (h : R.ct δ) : wpS X Tb (.Continue pos) δ R := fun B O0 M Lk σ τ H I => sem_s ps_continue ⟨δ, I, h⟩
theorem wpS_expr (h : wpE X Tb e δ fun _ => R.nx δ) (hs : swapsWith e none pos.line X.env = pure false := by rfl) : wpS X Tb (.Expr e pos) δ R := fun B O0 M Lk σ τ H I =>
  sem_s (ps_expr pe_sem hs) (h B O0 M Lk σ τ H I _ fun v d H' J q => ⟨δ, J.pop, q⟩)
theorem At.ret {G : Glo} {B : Hp} {O0 M : List Addr} {Lk : Lks} {σ : L2.St} {τ : List (V × D)} {H : Hp} {v : V} {d : D} (I : At G B O0 M Lk δ σ ((v, d) :: τ) H) : Ret G B O0 M Lk v H d := by
  obtain ⟨O, I⟩ := I
  exact ⟨I.gr, I.feeds, (I.tmp _ List.mem_cons_self).mono (vis_le I.sub0), fun p hp => ⟨fun z => (I.lck p hp).1 (I.sub0 _ z), (I.lck p hp).2⟩, I.nof⟩
theorem wpS_ret (h : wpE X Tb e δ R.rt) : wpS X Tb (.Return (some e) pos) δ R := fun B O0 M Lk σ τ H I =>
  sem_s (ps_ret pe_sem) (h B O0 M Lk σ τ H I _ fun v d H' J q => ⟨d, J.ret, q⟩)
theorem wpS_retN (h : R.rt .none) : wpS X Tb (.Return none pos) δ R := fun B O0 M Lk σ τ H I => sem_s ps_retN ⟨.none, (I.pushS (v := .non) (d := .none) fun _ => .non).ret, h⟩
theorem wpS_if {sa sb : List Stmt} (h : wpT X Tb c δ fun k => if k = true then wpSs X Tb sa δ R else wpSs X Tb sb δ R) : wpS X Tb (.If c sa sb pos) δ R := fun B O0 M Lk σ τ H I =>
  sem_s (ps_if pt_sem pss_sem pss_sem) (h B O0 M Lk σ τ H I _ fun k H' J q => by
    cases k with
    | true => exact q B O0 M Lk σ τ H' J
    | false => exact q B O0 M Lk σ τ H' J)
theorem AtO.set {G : Glo} {B : Hp} {O0 M O : List Addr} {Lk : Lks} {σ : L2.St} {τ : List (V × D)} {H : Hp} {v : V} {d : D} {j : Nat} (I : AtO G B O0 M Lk O δ σ τ H) (h : Rp (vis O H) v d) : AtO G B O0 M Lk O (δ.set j (some (.d d))) (σ.set j (some v)) τ H := by
  refine ⟨I.sub0, I.subM, I.o0, I.new, I.live, I.gr, fun p hp => ⟨(I.hid p hp).1, (I.hid p hp).2.1, (I.hid p hp).2.2.1, fun i o e => ?_⟩, I.hidT, I.feeds, I.tabs, I.tmp, by rw [List.length_set, List.length_set]; exact I.len, fun i sl e => ?_, fun i k o o' q e1 e2 e3 e4 => ?_, I.lck, I.nof, I.inn.setD (fun _ z => by cases z) _⟩
  · by_cases hj : j = i
    · subst hj
      have hlt : j < δ.length := by
        have := (List.getElem?_eq_some_iff.mp e).1
        rwa [List.length_set] at this
      rw [List.getElem?_set_self hlt] at e
      cases e
    · rw [List.getElem?_set_ne hj] at e ⊢
      exact (I.hid p hp).2.2.2 i o e
  · by_cases hj : j = i
    · subst hj
      have hlt : j < δ.length := by
        have := (List.getElem?_eq_some_iff.mp e).1
        rwa [List.length_set] at this
      rw [List.getElem?_set_self hlt] at e
      cases e
      exact ⟨v, by rw [List.getElem?_set_self (by rw [← I.len]; exact hlt)], h⟩
    · rw [List.getElem?_set_ne hj] at e
      obtain ⟨u, h1, h2⟩ := I.slots i sl e
      exact ⟨u, by rw [List.getElem?_set_ne hj]; exact h1, h2⟩
  · have ne : ∀ {i o}, (δ.set j (some (.d d)))[i]? = some (some (Sl.own o)) → j ≠ i := fun {i o} e z => by
      subst z
      have hlt : j < δ.length := by
        have := (List.getElem?_eq_some_iff.mp e).1
        rwa [List.length_set] at this
      rw [List.getElem?_set_self hlt] at e
      cases e
    have n1 := ne e1
    have n2 := ne e2
    rw [List.getElem?_set_ne n1] at e1 e3
    rw [List.getElem?_set_ne n2] at e2 e4
    exact I.sep i k o o' q e1 e2 e3 e4
theorem wpS_set {x : Str} {px : Pos} (j : Nat) (h : wpE X Tb e δ fun d => R.nx (δ.set j (some (.d d)))) (hN : X.N.Nodup) (hi : X.N[j]? = some x := by rfl) (hx : Loc X.env.scope x := by first | exact Or.inl rfl | exact Or.inr rfl)
    (hs : swapsWith e (some (.Name x px)) pos.line X.env = pure false := by rfl) (hf : X.fn x = true ∨ X.env.scope.names.lookup x = some .local := by first | exact .inl rfl | exact .inr rfl) : wpS X Tb (.Assign [.Name x px] e pos) δ R := fun B O0 M Lk σ τ H I =>
  sem_s (ps_set hN hi hx pe_sem hs hf) (h B O0 M Lk σ τ H I _ fun v d H' J q => by
    obtain ⟨O, J⟩ := J
    obtain ⟨J0, r⟩ := J.pop1
    exact ⟨_, ⟨O, J0.set r⟩, q⟩)
theorem wpG_name {x : Str} {px : Pos} {d : D} {P : Dl → Prop} (j : Nat) (h : P (δ.set j (some (.d d)))) (hN : X.N.Nodup) (hi : X.N[j]? = some x := by rfl) (hx : Loc X.env.scope x := by first | exact Or.inl rfl | exact Or.inr rfl)
    (hf : X.fn x = true ∨ X.env.scope.names.lookup x = some .local := by first | exact .inl rfl | exact .inr rfl) : wpG X Tb (.Name x px) d δ P := fun B O0 M Lk σ τ H v J Q q => ⟨fun pins s u I r => by
  obtain ⟨O, J⟩ := J
  obtain ⟨J0, rv⟩ := J.pop1
  exact (pg_name (pos := px) hN hi hx hf).run pins s σ H v u Q I r (q _ _ H ⟨O, J0.set rv⟩ h)⟩

/-! ### lists of the frame's own -/
/-- a new list -/
def wpF (X : Cx) (Tb : List Addr) (e : Expr) (δ : Dl) (P : List D → Prop) : Prop := ∀ B O0 M Lk σ τ H, At (GX X Tb) B O0 M Lk δ σ τ H → ∀ Q : VK,
  (∀ O xs ds q H', AtO (GX X Tb) B O0 M Lk O δ σ τ H' → H' q = none → RpA (vis O H') xs ds → P ds → Q (.ref q) (upd H' q (.lst xs))) → semE X e σ H Q
theorem wpF_lst {P : List D → Prop} (h : wpA X Tb es δ fun ds => ds.length ≤ sizeLine ∧ P ds) : wpF X Tb (.List es pos) δ P := fun B O0 M Lk σ τ H I Q q =>
  sem_e (pe_lst pa_sem) (h B O0 M Lk σ τ H I _ fun ps H' J h3 => by
    obtain ⟨O, J⟩ := J
    obtain ⟨J0, r⟩ := J.popA
    exact ⟨by rw [r.length]; exact h3.1, fun p hp => q O _ _ p H' J0 hp r h3.2⟩)
theorem wpF_cat {P : List D → Prop} (h : wpE X Tb a δ fun d1 => wpE X Tb b δ fun d2 => ∃ xs ys, d1 = .list xs ∧ d2 = .list ys ∧ xs.length + ys.length ≤ sizeLine ∧ P (xs ++ ys)) : wpF X Tb (.BinOp a .Add b pos) δ P := fun B O0 M Lk σ τ H I Q q =>
  sem_e (pe_op op_cat pe_sem pe_sem) (h B O0 M Lk σ τ H I _ fun x d1 H1 I1 h1 => h1 B O0 M Lk σ _ H1 I1 _ fun y d2 H2 I2 h2 => by
    obtain ⟨xs, ys, rfl, rfl, hl, h2⟩ := h2
    obtain ⟨O, J⟩ := I2
    obtain ⟨J0, rx, ry⟩ := J.pop2
    obtain ⟨a, us, rfl, ha, ra⟩ := rx.list'
    obtain ⟨b, ws, rfl, hb, rb⟩ := ry.list'
    exact ⟨a, b, us, ws, rfl, rfl, (vis_some ha).2, (vis_some hb).2, by rw [ra.length, rb.length]; exact hl, fun p hp => q O _ _ p H2 J0 hp (ra.append rb) h2⟩)
theorem AtO.own {G : Glo} {B : Hp} {O0 M O : List Addr} {Lk : Lks} {σ : L2.St} {τ : List (V × D)} {H : Hp} {xs : List V} {ds : List D} {q : Addr} {j : Nat} (I : AtO G B O0 M Lk O δ σ τ H) (hq : H q = none) (r : RpA (vis O H) xs ds) :
    AtO G B O0 M Lk (q :: O) (δ.set j (some (.own (.lst ds)))) (σ.set j (some (.ref q))) τ (upd H q (.lst xs)) := by
  obtain ⟨J, hn⟩ := I.alloc (o := .lst xs) hq
  have hB : B q = none := by
    cases e : B q with
    | none => rfl
    | some u =>
      have hM : q ∉ M := fun z => hn (I.sub0 _ (I.subM _ z))
      rcases I.gr q u hM e with h | ⟨_, _, _, h, _⟩ | ⟨_, _, h⟩ <;> rw [hq] at h <;> cases h
  have ve : vis (q :: O) (upd H q (.lst xs)) = vis O H := by
    funext a
    by_cases ha : a = q
    · subst ha
      rw [vis_in List.mem_cons_self, vis_out hn, hq]
    · by_cases ho : a ∈ O
      · rw [vis_in (List.mem_cons_of_mem _ ho), vis_in ho]
      · rw [vis_out (by simp [ha, ho]), vis_out ho, upd_ne ha]
  have hlen : (δ.set j (some (.own (.lst ds)))).length = (σ.set j (some (.ref q))).length := by rw [List.length_set, List.length_set]; exact I.len
  have oldref : ∀ (i : Nat) (o : OD), δ[i]? = some (some (.own o)) → σ[i]? ≠ some (some (.ref q)) := fun i o e z => by
    obtain ⟨v, h1, p, rfl, h2, _⟩ := I.slots i _ e
    rw [z] at h1
    have : V.ref q = V.ref p := Option.some.inj (Option.some.inj h1)
    exact hn (by rw [V.ref.inj this]; exact h2)
  refine ⟨fun p hp => List.mem_cons_of_mem _ (I.sub0 p hp), I.subM, I.o0, fun p hp => ?_, fun p hp => ?_, J.gr, fun p hp => ?_, I.hidT, J.feeds, J.tabs, fun p hp => by rw [ve]; exact I.tmp p hp, hlen, fun i sl e => ?_, fun i k o o' p e1 e2 e3 e4 => ?_, fun p hp => ⟨fun z => (List.mem_cons.mp z).elim (fun z => by have h := (I.lck p hp).2; rw [z, hq] at h; cases h) (I.lck p hp).1, by rw [upd_ne fun z => by have h := (I.lck p hp).2; rw [z, hq] at h; cases h]; exact (I.lck p hp).2⟩, J.nof, I.inn.setO rfl (I.innN hn) I.len⟩
  · rcases List.mem_cons.mp hp with e | hp
    · exact .inr (by rw [e]; exact hB)
    · exact I.new p hp
  · rcases List.mem_cons.mp hp with e | hp
    · rw [e, upd_same]
      exact fun z => nomatch z
    · exact J.live p hp
  · obtain ⟨h1, h2, h3, h4⟩ := I.hid p hp
    have np : p.1 ≠ q := fun z => hn (by rw [← z]; exact h2)
    refine ⟨by rw [upd_ne np]; exact h1, List.mem_cons_of_mem _ h2, h3, fun i o e => ?_⟩
    by_cases hj : j = i
    · subst hj
      have hlt : j < δ.length := by
        have := (List.getElem?_eq_some_iff.mp e).1
        rwa [List.length_set] at this
      rw [List.getElem?_set_self (by rw [← I.len]; exact hlt)]
      exact fun z => np (V.ref.inj (Option.some.inj (Option.some.inj z))).symm
    · rw [List.getElem?_set_ne hj] at e ⊢
      exact h4 i o e
  · by_cases hj : j = i
    · subst hj
      have hlt : j < δ.length := by
        have := (List.getElem?_eq_some_iff.mp e).1
        rwa [List.length_set] at this
      rw [List.getElem?_set_self hlt] at e
      cases e
      exact ⟨.ref q, by rw [List.getElem?_set_self (by rw [← I.len]; exact hlt)], q, rfl, List.mem_cons_self, .inr hB, .inr hB, xs, upd_same, by rw [ve]; exact r⟩
    · rw [List.getElem?_set_ne hj] at e
      obtain ⟨u, h1, h2⟩ := I.slots i sl e
      refine ⟨u, by rw [List.getElem?_set_ne hj]; exact h1, ?_⟩
      cases sl with
      | d d =>
        show Rp (vis (q :: O) _) u d
        rw [ve]
        exact h2
      | scr ns =>
        obtain ⟨a, e2, h2⟩ := h2
        refine ⟨a, e2, ?_⟩
        rw [ve]
        exact h2
      | own o =>
        obtain ⟨p, e2, hp, hb, hb2, h2⟩ := h2
        refine ⟨p, e2, List.mem_cons_of_mem _ hp, hb, hb2, ?_⟩
        have np : p ≠ q := fun z => hn (by rw [← z]; exact hp)
        cases o with
        | feed => obtain ⟨a, b, h2⟩ := h2; exact ⟨a, b, by rw [upd_ne np]; exact h2⟩
        | lst ds => obtain ⟨ys, h2, h3⟩ := h2; exact ⟨ys, by rw [upd_ne np]; exact h2, by rw [ve]; exact h3⟩
        | dic ks => obtain ⟨ys, h2, h4, h3⟩ := h2; exact ⟨ys, by rw [upd_ne np]; exact h2, h4, by rw [ve]; exact h3⟩
        | lss qs => exact ⟨by rw [upd_ne np]; exact h2.1, fun x hx => ⟨List.mem_cons_of_mem _ (h2.2 x hx).1, by
            obtain ⟨ys, h3, h4⟩ := (h2.2 x hx).2
            exact ⟨ys, by rw [upd_ne fun z => hn (by rw [← z]; exact (h2.2 x hx).1)]; exact h3, by rw [ve]; exact h4⟩⟩⟩
  · by_cases h1 : j = i
    · by_cases h2 : j = k
      · exact h1.symm.trans h2
      · subst h1
        have hlt : j < δ.length := by
          have := (List.getElem?_eq_some_iff.mp e1).1
          rwa [List.length_set] at this
        rw [List.getElem?_set_self (by rw [← I.len]; exact hlt)] at e3
        have ep : q = p := V.ref.inj (Option.some.inj (Option.some.inj e3))
        rw [List.getElem?_set_ne h2] at e2 e4
        exact (oldref k o' e2 (by rw [ep]; exact e4)).elim
    · rw [List.getElem?_set_ne h1] at e1 e3
      by_cases h2 : j = k
      · subst h2
        have hlt : j < δ.length := by
          have := (List.getElem?_eq_some_iff.mp e2).1
          rwa [List.length_set] at this
        rw [List.getElem?_set_self (by rw [← I.len]; exact hlt)] at e4
        have ep : q = p := V.ref.inj (Option.some.inj (Option.some.inj e4))
        exact (oldref i o e1 (by rw [ep]; exact e3)).elim
      · rw [List.getElem?_set_ne h2] at e2 e4
        exact I.sep i k o o' p e1 e2 e3 e4
/-- name = a new list, which the frame owns -/
theorem wpS_own {x : Str} {px : Pos} (j : Nat) (h : wpF X Tb e δ fun ds => R.nx (δ.set j (some (.own (.lst ds))))) (hN : X.N.Nodup) (hi : X.N[j]? = some x := by rfl) (hx : Loc X.env.scope x := by first | exact Or.inl rfl | exact Or.inr rfl)
    (hs : swapsWith e (some (.Name x px)) pos.line X.env = pure false := by rfl) (hf : X.fn x = true ∨ X.env.scope.names.lookup x = some .local := by first | exact .inl rfl | exact .inr rfl) : wpS X Tb (.Assign [.Name x px] e pos) δ R := fun B O0 M Lk σ τ H I =>
  sem_s (ps_set hN hi hx pe_sem hs hf) (h B O0 M Lk σ τ H I _ fun O xs ds q H' J hq r p => ⟨_, ⟨_, J.own (j := j) hq r⟩, p⟩)
/-- the frame hands a list of its own out of its care -/
theorem AtO.thaw {G : Glo} {B : Hp} {O0 M O : List Addr} {Lk : Lks} {σ : L2.St} {τ : List (V × D)} {H : Hp} {ds : List D} {j : Nat} (I : AtO G B O0 M Lk O δ σ τ H) (hj : δ[j]? = some (some (.own (.lst ds)))) : ∃ O', AtO G B O0 M Lk O' (δ.set j (some (.d (.list ds)))) σ τ H := by
  obtain ⟨v, hv, p, rfl, hp, _, hb2, xs, hx, r⟩ := I.slots j _ hj
  have hB : B p = none := hb2.elim (fun z => by cases z) id
  have memO : ∀ {a}, a ∈ O.filter (fun a => decide (a ≠ p)) ↔ a ∈ O ∧ a ≠ p := fun {a} => by simp
  have le : Le (vis O H) (vis (O.filter (fun a => decide (a ≠ p))) H) := vis_le fun a ha => (memO.mp ha).1
  have hlt : j < δ.length := (List.getElem?_eq_some_iff.mp hj).1
  refine ⟨O.filter (fun a => decide (a ≠ p)), fun a ha => memO.mpr ⟨I.sub0 a ha, fun z => I.o0 a ha (by rw [z]; exact hB)⟩, I.subM, I.o0, fun a ha => I.new a (memO.mp ha).1, fun a ha => I.live a (memO.mp ha).1, I.gr, fun q hq => ?_, I.hidT, I.feeds, I.tabs, fun q hq => (I.tmp q hq).mono le,
    by rw [List.length_set]; exact I.len, fun i sl e => ?_, fun i k o o' q e1 e2 e3 e4 => ?_, fun q hq => ⟨fun z => (I.lck q hq).1 (memO.mp z).1, (I.lck q hq).2⟩, I.nof, I.inn.tellD (fun _ z => by cases z)⟩
  · obtain ⟨h1, h2, h3, h4⟩ := I.hid q hq
    refine ⟨h1, memO.mpr ⟨h2, fun z => h4 j _ hj (by rw [z]; exact hv)⟩, h3, fun i o e => ?_⟩
    by_cases h5 : j = i
    · subst h5
      rw [List.getElem?_set_self hlt] at e
      cases e
    · rw [List.getElem?_set_ne h5] at e
      exact h4 i o e
  · by_cases h1 : j = i
    · subst h1
      rw [List.getElem?_set_self hlt] at e
      cases e
      refine ⟨.ref p, hv, .lst ?_ (r.mono le)⟩
      rw [vis_out fun z => (memO.mp z).2 rfl]
      exact hx
    · rw [List.getElem?_set_ne h1] at e
      obtain ⟨u, h2, h3⟩ := I.slots i sl e
      refine ⟨u, h2, ?_⟩
      cases sl with
      | d d => exact Rp.mono le h3
      | scr ns => obtain ⟨a, e2, h3⟩ := h3; exact ⟨a, e2, ex_seq le h3⟩
      | own o =>
        obtain ⟨a, e2, ha, hb, hb2, h3⟩ := h3
        have na : a ≠ p := fun z => h1 (I.sep j i _ o p hj e hv (by rw [h2, e2, z]))
        refine ⟨a, e2, memO.mpr ⟨ha, na⟩, hb, hb2, ?_⟩
        cases o with
        | feed => exact h3
        | lst ds => obtain ⟨zs, h4, h5⟩ := h3; exact ⟨zs, h4, h5.mono le⟩
        | dic ks => obtain ⟨zs, h4, h6, h5⟩ := h3; exact ⟨zs, h4, h6, h5.mono le⟩
        | lss qs => exact ⟨h3.1, fun x hx => ⟨memO.mpr ⟨(h3.2 x hx).1, fun z => I.inn.own i j _ _ e hj x.1 (List.mem_map_of_mem hx) (by rw [z]; exact hv)⟩, by
            obtain ⟨zs, h4, h5⟩ := (h3.2 x hx).2
            exact ⟨zs, h4, h5.mono le⟩⟩⟩
  · have n : ∀ {i o}, (δ.set j (some (.d (.list ds))))[i]? = some (some (Sl.own o)) → j ≠ i := fun {i o} e z => by
      subst z
      rw [List.getElem?_set_self hlt] at e
      cases e
    rw [List.getElem?_set_ne (n e1)] at e1
    rw [List.getElem?_set_ne (n e2)] at e2
    exact I.sep i k o o' q e1 e2 e3 e4
theorem wpSs_thaw {ds : List D} (j : Nat) (hj : δ[j]? = some (some (.own (.lst ds)))) (h : wpSs X Tb sts (δ.set j (some (.d (.list ds)))) R) : wpSs X Tb sts δ R := fun B O0 M Lk σ τ H I => by
  obtain ⟨O, I⟩ := I
  obtain ⟨O', I'⟩ := I.thaw hj
  exact h B O0 M Lk σ τ H ⟨O', I'⟩
theorem AtO.mutL {G : Glo} {B : Hp} {O0 M O : List Addr} {Lk : Lks} {σ : L2.St} {τ : List (V × D)} {H : Hp} {ds es : List D} {ys : List V} {j : Nat} {p : Addr} (I : AtO G B O0 M Lk O δ σ τ H) (hj : δ[j]? = some (some (.own (.lst ds)))) (hp : σ[j]? = some (some (.ref p))) (r : RpA (vis O H) ys es) :
    AtO G B O0 M Lk O (δ.set j (some (.own (.lst es)))) σ τ (upd H p (.lst ys)) := by
  obtain ⟨v, hv, p', rfl, hpO, _, hb2, xs, hx, _⟩ := I.slots j _ hj
  obtain rfl : p = p' := V.ref.inj (Option.some.inj (Option.some.inj (hp.symm.trans hv)))
  have hB : B p = none := hb2.elim (fun z => by cases z) id
  have hM : p ∉ M := fun z => I.o0 p (I.subM p z) hB
  have ve : vis O (upd H p (.lst ys)) = vis O H := le_mut hpO
  have hlt : j < δ.length := (List.getElem?_eq_some_iff.mp hj).1
  refine ⟨I.sub0, I.subM, I.o0, I.new, fun a ha => ?_, I.gr.mut (.inr hB), fun q hq => ?_, I.hidT, fun f hf => ?_, fun P hP => ?_, fun q hq => by rw [ve]; exact I.tmp q hq, by rw [List.length_set]; exact I.len, fun i sl e => ?_, fun i k o o' q e1 e2 e3 e4 => ?_, fun q hq => ⟨(I.lck q hq).1, by rw [upd_ne fun z => (I.lck q hq).1 (by rw [z]; exact hpO)]; exact (I.lck q hq).2⟩, fun a od u e => (by
    by_cases h : a = p
    · rw [h, upd_same] at e; cases e
    · rw [upd_ne h] at e; exact I.nof a od u e), I.inn.mut hj rfl⟩
  · by_cases h1 : a = p
    · rw [h1, upd_same]
      exact fun z => nomatch z
    · rw [upd_ne h1]
      exact I.live a ha
  · obtain ⟨h1, h2, h3, h4⟩ := I.hid q hq
    have nq : q.1 ≠ p := fun z => h4 j _ hj (by rw [z]; exact hv)
    refine ⟨by rw [upd_ne nq]; exact h1, h2, h3, fun i o e => ?_⟩
    by_cases h5 : j = i
    · subst h5
      exact h4 j _ hj
    · rw [List.getElem?_set_ne h5] at e
      exact h4 i o e
  · obtain ⟨a, b, h1⟩ := I.feeds f hf
    exact ⟨a, b, by rw [upd_ne fun z => hM (by rw [← z]; exact hf)]; exact h1⟩
  · obtain ⟨qs, h1, h2⟩ := I.tabs P hP
    refine ⟨qs, ?_, h2⟩
    rw [upd_ne fun z => ?_]
    · exact h1
    · rw [z, hx] at h1
      cases h1
  · by_cases h1 : j = i
    · subst h1
      rw [List.getElem?_set_self hlt] at e
      cases e
      exact ⟨.ref p, hv, p, rfl, hpO, .inr hB, .inr hB, ys, upd_same, by rw [ve]; exact r⟩
    · rw [List.getElem?_set_ne h1] at e
      obtain ⟨u, h2, h3⟩ := I.slots i sl e
      refine ⟨u, h2, ?_⟩
      cases sl with
      | d d =>
        show Rp (vis O _) u d
        rw [ve]
        exact h3
      | scr ns =>
        obtain ⟨a, e2, h3⟩ := h3
        refine ⟨a, e2, ?_⟩
        rw [ve]
        exact h3
      | own o =>
        obtain ⟨a, e2, ha, hb, hb2, h3⟩ := h3
        have na : a ≠ p := fun z => h1 (I.sep j i _ o p hj e hv (by rw [h2, e2, z]))
        refine ⟨a, e2, ha, hb, hb2, h3.le (by rw [ve]; exact Le.refl _) (fun _ q => by rw [upd_ne na]; exact q) (fun _ q => by rw [upd_ne na]; exact q) fun x hx xs q => by rw [upd_ne fun z => I.inn.own i j _ _ e hj x hx (by rw [z]; exact hv)]; exact q⟩
  · have n : ∀ {i : Nat} {o}, (δ.set j (some (.own (.lst es))))[i]? = some (some (Sl.own o)) → ∃ o, δ[i]? = some (some (Sl.own o)) := fun {i o} e => by
      by_cases h1 : j = i
      · subst h1
        exact ⟨_, hj⟩
      · rw [List.getElem?_set_ne h1] at e
        exact ⟨_, e⟩
    obtain ⟨o1, e1⟩ := n e1
    obtain ⟨o2, e2⟩ := n e2
    exact I.sep i k o1 o2 q e1 e2 e3 e4
/-- name.append(e), the list the frame's own -/
theorem wpS_append {x : Str} {px apos cpos : Pos} {ds : List D} (j : Nat) (hj : δ[j]? = some (some (.own (.lst ds)))) (h : wpE X Tb e δ fun d => ds.length < sizeLine ∧ R.nx (δ.set j (some (.own (.lst (ds ++ [d])))))) (hN : X.N[j]? = some x := by rfl)
    (hv : Vis X.env.scope x := by first | exact Or.inl rfl | exact Or.inr (Or.inl rfl) | exact Or.inr (Or.inr rfl)) (h1 : (x == ("__debug__" : Str)) = false := by decide) (h2 : (x == ("__classdict__" : Str)) = false := by decide)
    (hs : starEach [e] X.env = (false, eval e X.env) :: starEach [] X.env := by rfl) {hpe : ∀ {ta : TE} {t : TA}, PE X (.Name x px) ta → PA X [e] t → PE X (.Call (.Attribute (.Name x px) "append" apos) [e] [] cpos) (tBM X.K "list" rAppend ta t)}
    (hsw : swapsWith (.Call (.Attribute (.Name x px) "append" apos) [e] [] cpos) none pos.line X.env = pure false := by rfl) :
    wpS X Tb (.Expr (.Call (.Attribute (.Name x px) "append" apos) [e] [] cpos) pos) δ R := fun B O0 M Lk σ τ H I =>
  sem_s (ps_expr (hpe (pe_var hN hv h1 h2) (pa_cons pe_sem pa_nil hs)) hsw) (by
    obtain ⟨O, I⟩ := I
    obtain ⟨v, e0, p, rfl, hp, hb, hb2, xs, hx, r⟩ := I.slots j _ hj
    refine ⟨.ref p, e0, .inl ⟨rfl, _, .inl (.inl hx)⟩, h B O0 M Lk σ τ H ⟨O, I⟩ _ fun u d H' J q => ?_⟩
    obtain ⟨O', J⟩ := J
    obtain ⟨J0, ru⟩ := J.pop1
    obtain ⟨v1, e1, p1, e2, hp1, _, _, xs1, hx1, r1⟩ := J0.slots j _ hj
    have ev : V.ref p = v1 := Option.some.inj (Option.some.inj (e0.symm.trans e1))
    rw [e2] at ev
    obtain rfl : p = p1 := V.ref.inj ev
    exact ⟨p, xs1, u, rfl, rfl, hx1, by rw [r1.length]; exact q.1, _, ⟨O', J0.mutL hj e0 (r1.append (RpA.one ru))⟩, q.2⟩)
end
end DL

set_option Elab.async false
set_option linter.all false
set_option maxRecDepth 100000
set_option maxHeartbeats 2000000
/-! DL5: iteration, loops, comprehensions, any and all; a def by its body. -/
namespace DL
open PySem PySem.Spec L2

/-! ### what is walked -/
/-- J walks the data ds, while κ is held -/
def IterJ (G : Glo) (J : It) (ds : List D) (κ : List (V × D)) : Prop := ∀ B O0 M Lk O δ σ τ H, AtO G B O0 M Lk O δ σ τ H → (∀ p ∈ κ, p ∈ τ) → ∀ i,
  (i < ds.length → J.go i H ∧ ∀ x H', J.yld i H x H' → ∃ d, ds[i]? = some d ∧ AtO G B O0 M Lk O δ σ ((x, d) :: τ) H') ∧ (ds.length ≤ i → J.stop i H)
def wpI (X : Cx) (Tb : List Addr) (tg iter : Expr) (δ : Dl) (P : List D → Prop) : Prop := ∃ wi, PI X tg iter wi ∧ ∀ B O0 M Lk σ τ H, At (GX X Tb) B O0 M Lk δ σ τ H → ∀ R : It → Hp → Prop,
  (∀ J ds κ H', At (GX X Tb) B O0 M Lk δ σ (κ ++ τ) H' → IterJ (GX X Tb) J ds κ → P ds → R J H') → wi σ H R
section
variable {X : Cx} {Tb : List Addr} {δ : Dl} {tg e a b iter elt : Expr} {pos p : Pos}
theorem iterL {G : Glo} {a : Addr} {ds : List D} : IterJ G (Itl G.K a) ds [(.ref a, .list ds)] := by
  intro B O0 M Lk O δ σ τ H I hk i
  have r := I.tmp _ (hk _ List.mem_cons_self)
  obtain ⟨a', xs, e, ha, rx⟩ := Rp.list' r
  obtain rfl := V.ref.inj e
  have hS : SqL G.K H a xs := SqL.of (vis_some ha).2
  refine ⟨fun hi => ?_, fun hi => ⟨xs, hS, by rw [rx.length]; exact hi⟩⟩
  obtain ⟨v, hv, rv⟩ := rx.get (List.getElem?_eq_getElem hi)
  refine ⟨⟨xs, v, hS, hv⟩, fun x H' hy => ?_⟩
  obtain ⟨rfl, hy⟩ := hy
  have e := hy xs hS
  rw [hv] at e
  cases e
  exact ⟨_, List.getElem?_eq_getElem hi, I.push rv⟩
theorem iterT {G : Glo} {a : Addr} {ds : List D} : IterJ G (Itt G.K a) ds [(.ref a, .tuple ds)] := by
  intro B O0 M Lk O δ σ τ H I hk i
  have r := I.tmp _ (hk _ List.mem_cons_self)
  obtain ⟨a', xs, e, ha, rx⟩ := Rp.tuple' r
  obtain rfl := V.ref.inj e
  have hS : SqT G.K H a xs := SqT.of (vis_some ha).2
  refine ⟨fun hi => ?_, fun hi => ⟨xs, hS, by rw [rx.length]; exact hi⟩⟩
  obtain ⟨v, hv, rv⟩ := rx.get (List.getElem?_eq_getElem hi)
  refine ⟨⟨xs, v, hS, hv⟩, fun x H' hy => ?_⟩
  obtain ⟨rfl, hy⟩ := hy
  have e := hy xs hS
  rw [hv] at e
  cases e
  exact ⟨_, List.getElem?_eq_getElem hi, I.push rv⟩
theorem iterR {G : Glo} {lo : Int} {n : Nat} {κ : List (V × D)} : IterJ G (Itr lo n) ((List.range n).map fun i => .int (lo + (i : Nat))) κ := by
  intro B O0 M Lk O δ σ τ H I _ i
  rw [List.length_map, List.length_range]
  refine ⟨fun hi => ⟨hi, fun x H' hy => ?_⟩, fun hi => hi⟩
  obtain ⟨rfl, rfl⟩ := hy
  exact ⟨.int (lo + i), by rw [List.getElem?_map, List.getElem?_range hi]; rfl, I.push (.int _)⟩
theorem wpI_list {P : List D → Prop} (h : wpE X Tb iter δ fun d => ∃ ds, d = .list ds ∧ P ds) : wpI X Tb tg iter δ P := ⟨_, pi_list pe_sem, fun B O0 M Lk σ τ H I R q => h B O0 M Lk σ τ H I _ fun v d H' J h1 => by
  obtain ⟨ds, rfl, h1⟩ := h1
  obtain ⟨O, J⟩ := J
  obtain ⟨a, xs, rfl, ha, rx⟩ := (J.tmp _ List.mem_cons_self).list'
  exact ⟨a, rfl, ⟨xs, SqL.of (vis_some ha).2⟩, q _ _ [(.ref a, .list ds)] H' ⟨O, J⟩ iterL h1⟩⟩
theorem wpI_tup {P : List D → Prop} (h : wpE X Tb iter δ fun d => ∃ ds, d = .tuple ds ∧ P ds) : wpI X Tb tg iter δ P := ⟨_, pi_tup pe_sem, fun B O0 M Lk σ τ H I R q => h B O0 M Lk σ τ H I _ fun v d H' J h1 => by
  obtain ⟨ds, rfl, h1⟩ := h1
  obtain ⟨O, J⟩ := J
  obtain ⟨a, xs, rfl, ha, rx⟩ := (J.tmp _ List.mem_cons_self).tuple'
  exact ⟨a, rfl, ⟨xs, SqT.of (vis_some ha).2⟩, q _ _ [(.ref a, .tuple ds)] H' ⟨O, J⟩ iterT h1⟩⟩
theorem wpI_range {P : List D → Prop} (hm : X.mg "range" = none) (h : wpA X Tb [a] δ fun ds => ∃ n : Int, ds = [.int n] ∧ (-(2 ^ 62) ≤ n ∧ n < 2 ^ 62) ∧ P ((List.range n.toNat).map fun i => .int (0 + (i : Nat)))) (hg : Gl X "range" := by rfl)
    (hs : starEach [a] X.env = [(false, eval a X.env)] := by rfl) : wpI X Tb tg (.Call (.Name "range" p) [a] [] pos) δ P := ⟨_, pi_range1 hg hm pa_sem hs, fun B O0 M Lk σ τ H I R q => h B O0 M Lk σ τ H I _ fun ps H' J h1 => by
  obtain ⟨n, e, h0, h1⟩ := h1
  obtain ⟨O, J⟩ := J
  obtain ⟨J0, r⟩ := J.popA
  rw [e] at r
  obtain ⟨v, e2, rv⟩ := r.one'
  rw [e2, rv.int']
  exact ⟨n, rfl, h0.1, h0.2, q _ _ [] H' ⟨O, J0⟩ iterR h1⟩⟩
theorem wpI_range2 {P : List D → Prop} (hm : X.mg "range" = none) (h : wpA X Tb [a, b] δ fun ds => ∃ m n : Int, ds = [.int m, .int n] ∧ (-(2 ^ 62) ≤ m ∧ m < 2 ^ 62 ∧ -(2 ^ 62) ≤ n ∧ n < 2 ^ 62) ∧ P ((List.range (n - m).toNat).map fun i => .int (m + (i : Nat)))) (hg : Gl X "range" := by rfl)
    (hs : starEach [a, b] X.env = [(false, eval a X.env), (false, eval b X.env)] := by rfl) (hs2 : starEach [b] X.env = [(false, eval b X.env)] := by rfl) : wpI X Tb tg (.Call (.Name "range" p) [a, b] [] pos) δ P := ⟨_, pi_range2 hg hm pa_sem hs hs2, fun B O0 M Lk σ τ H I R q => h B O0 M Lk σ τ H I _ fun ps H' J h1 => by
  obtain ⟨m, n, e, h0, h1⟩ := h1
  obtain ⟨O, J⟩ := J
  obtain ⟨J0, r⟩ := J.popA
  rw [e] at r
  obtain ⟨v, u, e2, rv, ru⟩ := r.two'
  rw [e2, rv.int', ru.int']
  exact ⟨m, n, rfl, h0, q _ _ [] H' ⟨O, J0⟩ iterR h1⟩⟩

/-! ### for -/
theorem pg_sem : PG X tg (semG X tg) := ⟨fun pins s _ _ _ u _ I r h => h.run pins s u I r⟩
theorem At.app {G : Glo} {B : Hp} {O0 M : List Addr} {Lk : Lks} {σ : L2.St} {κ τ : List (V × D)} {H : Hp} (I : At G B O0 M Lk δ σ (κ ++ τ) H) : At G B O0 M Lk δ σ τ H := I.drops fun x hx => List.mem_append.mpr (.inr hx)
theorem wpS_for {body : List Stmt} {R : Rs} (h : wpI X Tb tg iter δ fun ds => ∃ Iv : Nat → Dl → Prop, Iv 0 δ ∧ (∀ i d δ', ds[i]? = some d → Iv i δ' → wpG X Tb tg d δ' fun δ2 => wpSs X Tb body δ2 ⟨Iv (i + 1), R.rt, R.nx, Iv (i + 1)⟩) ∧ ∀ δ', Iv ds.length δ' → R.nx δ')
    (hp : PassesOwn (model X.prog X.w) X.A X.env X.xe) (hc : X.calm = true) (hs : ∀ x, foldedSetIterable iter X.env x = pure x := by intro _; rfl) : wpS X Tb (.For tg iter body [] pos) δ R := fun B O0 M Lk σ τ H I => by
  obtain ⟨wi, hi, hw⟩ := h
  refine sem_s (ps_for hp hc hi pg_sem pss_sem hs) (hw B O0 M Lk σ τ H I _ fun J ds κ H1 I1 it h1 => ?_)
  obtain ⟨Iv, h0, hstep, hend⟩ := h1
  refine ⟨fun i m σ H => m = ds.length - i ∧ i ≤ ds.length ∧ ∃ δ', At (GX X Tb) B O0 M Lk δ' σ (κ ++ τ) H ∧ Iv i δ', ⟨_, rfl, Nat.zero_le _, δ, I1, h0⟩, fun i m σ H ⟨em, hi, δ', I2, hv⟩ => ?_⟩
  obtain ⟨O, I2⟩ := I2
  have itv := it B O0 M Lk O δ' σ (κ ++ τ) H I2 (fun p hp => List.mem_append.mpr (.inl hp)) i
  by_cases hlt : i < ds.length
  · obtain ⟨go, yl⟩ := itv.1 hlt
    refine .inr ⟨go, fun σ' H' => ∃ δ', At (GX X Tb) B O0 M Lk δ' σ' (κ ++ τ) H' ∧ Iv (i + 1) δ', fun σ' H' ⟨δ3, q1, q2⟩ => ⟨ds.length - (i + 1), by omega, rfl, hlt, δ3, q1, q2⟩, fun x H' hy => ?_⟩
    obtain ⟨d, hd, I3⟩ := yl x H' hy
    refine hstep i d δ' hd hv B O0 M Lk σ (κ ++ τ) H' x ⟨O, I3⟩ _ (fun δ2 σ2 H2 I4 q4 => ?_)
    have q5 := q4 B O0 M Lk σ2 (κ ++ τ) H2 I4
    refine semSs_le ?_ q5
    exact ⟨fun _ _ q => q, fun _ _ q => q, fun _ _ ⟨δ3, q1, q2⟩ => ⟨δ3, q1.app, q2⟩, fun _ _ q => q⟩
  · have e : i = ds.length := by omega
    subst e
    exact .inl ⟨itv.2 (Nat.le_refl _), δ', At.app (κ := κ) ⟨O, I2⟩, hend δ' hv⟩

/-! ### a list comprehension, its target a name (slot j) -/
def wipeD (δ : Dl) (j : Nat) : Dl := δ.set j none
theorem AtO.wipe {G : Glo} {B : Hp} {O0 M O : List Addr} {Lk : Lks} {σ : L2.St} {τ : List (V × D)} {H : Hp} {j : Nat} (I : AtO G B O0 M Lk O δ σ τ H) : AtO G B O0 M Lk O (wipeD δ j) (L2.wipe σ [j]) τ H := by
  have es : L2.wipe σ [j] = σ.set j none := rfl
  rw [es]
  unfold wipeD
  have get : ∀ {i : Nat} {sl : Sl}, (δ.set j none)[i]? = some (some sl) → j ≠ i ∧ δ[i]? = some (some sl) := fun {i sl} e => by
    by_cases h : j = i
    · subst h
      have hlt : j < δ.length := by
        have := (List.getElem?_eq_some_iff.mp e).1
        rwa [List.length_set] at this
      rw [List.getElem?_set_self hlt] at e
      cases e
    · rw [List.getElem?_set_ne h] at e
      exact ⟨h, e⟩
  refine ⟨I.sub0, I.subM, I.o0, I.new, I.live, I.gr, fun p hp => ⟨(I.hid p hp).1, (I.hid p hp).2.1, (I.hid p hp).2.2.1, fun i o e => ?_⟩, I.hidT, I.feeds, I.tabs, I.tmp, by rw [List.length_set, List.length_set]; exact I.len, fun i sl e => ?_, fun i k o o' q e1 e2 e3 e4 => ?_, I.lck, I.nof, I.inn.setD (fun _ z => by cases z) _⟩
  · obtain ⟨n, e⟩ := get e
    rw [List.getElem?_set_ne n]
    exact (I.hid p hp).2.2.2 i o e
  · obtain ⟨n, e⟩ := get e
    obtain ⟨u, h1, h2⟩ := I.slots i sl e
    exact ⟨u, by rw [List.getElem?_set_ne n]; exact h1, h2⟩
  · obtain ⟨n1, e1⟩ := get e1
    obtain ⟨n2, e2⟩ := get e2
    rw [List.getElem?_set_ne n1] at e3
    rw [List.getElem?_set_ne n2] at e4
    exact I.sep i k o o' q e1 e2 e3 e4
/-- a new object that no slot holds is hidden -/
theorem AtO.hide {G : Glo} {B : Hp} {O0 M O : List Addr} {Lk : Lks} {σ : L2.St} {τ : List (V × D)} {H : Hp} {q : Addr} {ob : HO} (I : AtO G B O0 M Lk O δ σ τ H) (hq : H q = none) (hob : ∀ ps, ob ≠ .tbl ps := by exact fun _ z => nomatch z) (hof : ∀ od u, ob ≠ .frz od u := by exact fun _ _ z => nomatch z) :
    AtO G B O0 M (Lk.1, (q, ob) :: Lk.2) (q :: O) δ σ τ (upd H q (ob)) ∧ vis (q :: O) (upd H q (ob)) = vis O H ∧ B q = none := by
  obtain ⟨J, hn⟩ := I.alloc (o := ob) hq hof
  have hB : B q = none := by
    cases e : B q with
    | none => rfl
    | some u =>
      have hM : q ∉ M := fun z => hn (I.sub0 _ (I.subM _ z))
      rcases I.gr q u hM e with h | ⟨_, _, _, h, _⟩ | ⟨_, _, h⟩ <;> rw [hq] at h <;> cases h
  have ve : vis (q :: O) (upd H q (ob)) = vis O H := by
    funext a
    by_cases ha : a = q
    · subst ha
      rw [vis_in List.mem_cons_self, vis_out hn, hq]
    · by_cases ho : a ∈ O
      · rw [vis_in (List.mem_cons_of_mem _ ho), vis_in ho]
      · rw [vis_out (by simp [ha, ho]), vis_out ho, upd_ne ha]
  refine ⟨⟨fun p hp => List.mem_cons_of_mem _ (I.sub0 p hp), I.subM, I.o0, fun p hp => ?_, fun p hp => ?_, J.gr, fun p hp => ?_, fun p hp ps => ?_, J.feeds, J.tabs, fun p hp => by rw [ve]; exact I.tmp p hp, I.len, fun i sl e => ?_, I.sep, fun p hp => ⟨fun z => (List.mem_cons.mp z).elim (fun z => by have h := (I.lck p hp).2; rw [z, hq] at h; cases h) (I.lck p hp).1, by rw [upd_ne fun z => by have h := (I.lck p hp).2; rw [z, hq] at h; cases h]; exact (I.lck p hp).2⟩, J.nof, I.inn.more (I.innN hn)⟩, ve, hB⟩
  · rcases List.mem_cons.mp hp with e | hp
    · exact .inr (by rw [e]; exact hB)
    · exact I.new p hp
  · rcases List.mem_cons.mp hp with e | hp
    · rw [e, upd_same]
      exact fun z => nomatch z
    · exact J.live p hp
  · rcases List.mem_cons.mp hp with e | hp
    · rw [e]
      refine ⟨upd_same, List.mem_cons_self, hB, fun i o e2 z => ?_⟩
      obtain ⟨v, h1, a, rfl, h2, _⟩ := I.slots i _ e2
      rw [z] at h1
      have ea : q = a := V.ref.inj (Option.some.inj (Option.some.inj h1))
      exact hn (by rw [ea]; exact h2)
    · obtain ⟨h1, h2, h3, h4⟩ := I.hid p hp
      exact ⟨by rw [upd_ne fun z => hn (by rw [← z]; exact h2)]; exact h1, List.mem_cons_of_mem _ h2, h3, h4⟩
  · rcases List.mem_cons.mp hp with e | hp
    · rw [e]
      exact hob ps
    · exact I.hidT p hp ps
  · obtain ⟨u, h1, h2⟩ := I.slots i sl e
    refine ⟨u, h1, ?_⟩
    cases sl with
    | d d =>
      show Rp (vis (q :: O) _) u d
      rw [ve]
      exact h2
    | scr ns =>
      obtain ⟨a, e2, h2⟩ := h2
      refine ⟨a, e2, ?_⟩
      rw [ve]
      exact h2
    | own o =>
      obtain ⟨p, e2, hp, hb, hb2, h2⟩ := h2
      refine ⟨p, e2, List.mem_cons_of_mem _ hp, hb, hb2, ?_⟩
      have np : p ≠ q := fun z => hn (by rw [← z]; exact hp)
      cases o with
      | feed => obtain ⟨a, b, h2⟩ := h2; exact ⟨a, b, by rw [upd_ne np]; exact h2⟩
      | lst ds => obtain ⟨ys, h2, h3⟩ := h2; exact ⟨ys, by rw [upd_ne np]; exact h2, by rw [ve]; exact h3⟩
      | dic ks => obtain ⟨ys, h2, h4, h3⟩ := h2; exact ⟨ys, by rw [upd_ne np]; exact h2, h4, by rw [ve]; exact h3⟩
      | lss qs => exact ⟨by rw [upd_ne np]; exact h2.1, fun x hx => ⟨List.mem_cons_of_mem _ (h2.2 x hx).1, by
          obtain ⟨ys, h3, h4⟩ := (h2.2 x hx).2
          exact ⟨ys, by rw [upd_ne fun z => hn (by rw [← z]; exact (h2.2 x hx).1)]; exact h3, by rw [ve]; exact h4⟩⟩⟩
/-- a hidden object changes -/
theorem AtO.turn {G : Glo} {B : Hp} {O0 M O : List Addr} {Lk1 : List (Addr × Obj × HO)} {hs : List (Addr × HO)} {σ : L2.St} {τ : List (V × D)} {H : Hp} {q : Addr} {ob ob' : HO} (I : AtO G B O0 M (Lk1, (q, ob) :: hs) O δ σ τ H) (hd : ∀ p ∈ hs, p.1 ≠ q) (hob : ∀ ps, ob' ≠ .tbl ps := by exact fun _ z => nomatch z) (hof : ∀ od u, ob' ≠ .frz od u := by exact fun _ _ z => nomatch z) :
    AtO G B O0 M (Lk1, (q, ob') :: hs) O δ σ τ (upd H q (ob')) ∧ vis O (upd H q (ob')) = vis O H := by
  obtain ⟨h1, h2, h3, h4⟩ := I.hid _ List.mem_cons_self
  have ve : vis O (upd H q (ob')) = vis O H := le_mut h2
  have hM : q ∉ M := fun z => I.o0 q (I.subM q z) h3
  refine ⟨⟨I.sub0, I.subM, I.o0, I.new, fun a ha => ?_, I.gr.mut (.inr h3), fun p hp => ?_, fun p hp ps => ?_, fun f hf => ?_, fun P hP => ?_, fun p hp => by rw [ve]; exact I.tmp p hp, I.len, fun i sl e => ?_, I.sep, fun p hp => ⟨(I.lck p hp).1, by rw [upd_ne fun z => (I.lck p hp).1 (by rw [z]; exact h2)]; exact (I.lck p hp).2⟩, fun a od u e => (by
    by_cases h : a = q
    · rw [h, upd_same] at e; exact absurd (Option.some.inj e) (hof od u)
    · rw [upd_ne h] at e; exact I.nof a od u e), (I.inn.less (fun p hp => List.mem_cons_of_mem _ hp)).more fun i o e hx => I.inn.hid i o e q hx _ List.mem_cons_self rfl⟩, ve⟩
  · by_cases h5 : a = q
    · rw [h5, upd_same]
      exact fun z => nomatch z
    · rw [upd_ne h5]
      exact I.live a ha
  · rcases List.mem_cons.mp hp with e | hp
    · rw [e]
      exact ⟨upd_same, h2, h3, h4⟩
    · obtain ⟨g1, g2, g3, g4⟩ := I.hid p (List.mem_cons_of_mem _ hp)
      exact ⟨by rw [upd_ne (hd p hp)]; exact g1, g2, g3, g4⟩
  · rcases List.mem_cons.mp hp with e | hp
    · rw [e]
      exact hob ps
    · exact I.hidT p (List.mem_cons_of_mem _ hp) ps
  · obtain ⟨a, b, g⟩ := I.feeds f hf
    exact ⟨a, b, by rw [upd_ne fun z => hM (by rw [← z]; exact hf)]; exact g⟩
  · obtain ⟨qs, g1, g2⟩ := I.tabs P hP
    refine ⟨qs, ?_, g2⟩
    rw [upd_ne fun z => ?_]
    · exact g1
    · rw [z] at g1
      exact I.hidT _ List.mem_cons_self qs (Option.some.inj (h1.symm.trans g1))
  · obtain ⟨u, g1, g2⟩ := I.slots i sl e
    refine ⟨u, g1, ?_⟩
    cases sl with
    | d d =>
      show Rp (vis O _) u d
      rw [ve]
      exact g2
    | scr ns =>
      obtain ⟨a, e2, g2⟩ := g2
      refine ⟨a, e2, ?_⟩
      rw [ve]
      exact g2
    | own o =>
      obtain ⟨a, e2, ha, hb, hb2, g3⟩ := g2
      have na : a ≠ q := fun z => h4 i o e (by rw [g1, e2, z])
      exact ⟨a, e2, ha, hb, hb2, g3.le (by rw [ve]; exact Le.refl _) (fun _ q => by rw [upd_ne na]; exact q) (fun _ q => by rw [upd_ne na]; exact q) fun x hx xs k => by rw [upd_ne fun z => I.inn.hid i o e x hx _ List.mem_cons_self z.symm]; exact k⟩
/-- it is shown -/
theorem AtO.show' {G : Glo} {B : Hp} {O0 M O : List Addr} {Lk1 : List (Addr × Obj × HO)} {hs : List (Addr × HO)} {σ : L2.St} {τ : List (V × D)} {H : Hp} {q : Addr} {ob : HO} (I : AtO G B O0 M (Lk1, (q, ob) :: hs) O δ σ τ H) (hd : ∀ p ∈ hs, p.1 ≠ q) :
    ∃ O', AtO G B O0 M (Lk1, hs) O' δ σ τ H ∧ Le (vis O H) (vis O' H) ∧ vis O' H q = some ob := by
  obtain ⟨h1, h2, h3, h4⟩ := I.hid _ List.mem_cons_self
  have memO : ∀ {a}, a ∈ O.filter (fun a => decide (a ≠ q)) ↔ a ∈ O ∧ a ≠ q := fun {a} => by simp
  have le : Le (vis O H) (vis (O.filter (fun a => decide (a ≠ q))) H) := vis_le fun a ha => (memO.mp ha).1
  refine ⟨O.filter (fun a => decide (a ≠ q)), ⟨fun a ha => memO.mpr ⟨I.sub0 a ha, fun z => I.o0 a ha (by rw [z]; exact h3)⟩, I.subM, I.o0, fun a ha => I.new a (memO.mp ha).1, fun a ha => I.live a (memO.mp ha).1, I.gr, fun p hp => ?_, fun p hp => I.hidT p (List.mem_cons_of_mem _ hp), I.feeds, I.tabs, fun p hp => ?_, I.len, fun i sl e => ?_, I.sep, fun p hp => ⟨fun z => (I.lck p hp).1 (memO.mp z).1, (I.lck p hp).2⟩, I.nof, I.inn.less fun p hp => List.mem_cons_of_mem _ hp⟩, le, by rw [vis_out fun z => (memO.mp z).2 rfl]; exact h1⟩
  · obtain ⟨g1, g2, g3, g4⟩ := I.hid p (List.mem_cons_of_mem _ hp)
    exact ⟨g1, memO.mpr ⟨g2, hd p hp⟩, g3, g4⟩
  · exact (I.tmp p hp).mono le
  · obtain ⟨u, g1, g2⟩ := I.slots i sl e
    refine ⟨u, g1, ?_⟩
    cases sl with
    | d d => exact Rp.mono le g2
    | scr ns => obtain ⟨a, e2, g2⟩ := g2; exact ⟨a, e2, ex_seq le g2⟩
    | own o =>
      obtain ⟨a, e2, ha, hb, hb2, g3⟩ := g2
      have na : a ≠ q := fun z => h4 i o e (by rw [g1, e2, z])
      refine ⟨a, e2, memO.mpr ⟨ha, na⟩, hb, hb2, ?_⟩
      cases o with
      | feed => exact g3
      | lst ds => obtain ⟨zs, g4, g5⟩ := g3; exact ⟨zs, g4, g5.mono le⟩
      | dic ks => obtain ⟨zs, g4, g6, g5⟩ := g3; exact ⟨zs, g4, g6, g5.mono le⟩
      | lss qs => exact ⟨g3.1, fun x hx => ⟨memO.mpr ⟨(g3.2 x hx).1, fun z => I.inn.hid i _ e x.1 (List.mem_map_of_mem hx) _ List.mem_cons_self z.symm⟩, by
          obtain ⟨zs, h4, h5⟩ := (g3.2 x hx).2
          exact ⟨zs, h4, h5.mono le⟩⟩⟩
end
end DL

set_option Elab.async false
set_option linter.all false
set_option maxRecDepth 100000
set_option maxHeartbeats 2000000
/-! DL6: list comprehensions, any and all; a def by its body. -/
namespace DL
open PySem PySem.Spec L2

section
variable {X : Cx} {Tb : List Addr} {δ : Dl} {tg e a b iter elt : Expr} {pos p : Pos}
abbrev blkX (X : Cx) (z : Shared) (H : Hp) (scope : Scope) (C : Addr) (cl : List (Str × Addr)) (fp : List Addr) : Cx := X.blk z H scope (compEnvC scope cl C X.env) fp
theorem AtO.unset {G : Glo} {B : Hp} {O0 M O : List Addr} {Lk : Lks} {σ σ' : L2.St} {τ : List (V × D)} {H : Hp} {j : Nat} {sl : Sl} (hj : δ[j]? = some none) (hl : σ'.length = σ.length) (hσ : ∀ i, i ≠ j → σ'[i]? = σ[i]?) (I : AtO G B O0 M Lk O (δ.set j (some sl)) σ' τ H) : AtO G B O0 M Lk O δ σ τ H := by
  have get : ∀ {i : Nat} {s : Sl}, δ[i]? = some (some s) → i ≠ j ∧ (δ.set j (some sl))[i]? = some (some s) := fun {i s} e => by
    have n : i ≠ j := fun z => by
      rw [z, hj] at e
      cases e
    exact ⟨n, by rw [List.getElem?_set_ne (Ne.symm n)]; exact e⟩
  refine ⟨I.sub0, I.subM, I.o0, I.new, I.live, I.gr, fun p hp => ⟨(I.hid p hp).1, (I.hid p hp).2.1, (I.hid p hp).2.2.1, fun i o e => ?_⟩, I.hidT, I.feeds, I.tabs, I.tmp, by rw [← hl, ← I.len, List.length_set], fun i s e => ?_, fun i k o o' q e1 e2 e3 e4 => ?_, I.lck, I.nof, I.inn.map id (fun _ _ _ _ _ _ z => z) fun i o e => ⟨o, (get e).2, rfl, (hσ i (get e).1).symm⟩⟩
  · obtain ⟨n, e⟩ := get e
    rw [← hσ i n]
    exact (I.hid p hp).2.2.2 i o e
  · obtain ⟨n, e⟩ := get e
    obtain ⟨u, h1, h2⟩ := I.slots i s e
    exact ⟨u, by rw [← hσ i n]; exact h1, h2⟩
  · obtain ⟨n1, e1⟩ := get e1
    obtain ⟨n2, e2⟩ := get e2
    rw [← hσ _ n1] at e3
    rw [← hσ _ n2] at e4
    exact I.sep i k o o' q e1 e2 e3 e4
def lcT (X : Cx) (scope : Scope) : Option Expr → TT
  | none => tYes
  | some t => fun σ H' Q => ∀ z H C cl fp, semT (blkX X z H scope C cl fp) t σ H' Q
abbrev LcG (X : Cx) (Tb : List Addr) (scope : Scope) (elt : Expr) (δ : Dl) (j : Nat) (c : Option Expr) (P : D → Prop) (ds : List D) : Prop := ds.length < sizeLine ∧ ∃ Iv : Nat → List D → Prop, Iv 0 [] ∧ (∀ i d acc, ds[i]? = some d → Iv i acc →
      match c with
      | none => ∀ z H C cl fp, wpE (blkX X z H scope C cl fp) Tb elt (δ.set j (some (.d d))) fun y => Iv (i + 1) (acc ++ [y])
      | some t => ∃ T : Bool → Prop, (∀ z H C cl fp, wpT (blkX X z H scope C cl fp) Tb t (δ.set j (some (.d d))) T) ∧ (T true → ∀ z H C cl fp, wpE (blkX X z H scope C cl fp) Tb elt (δ.set j (some (.d d))) fun y => Iv (i + 1) (acc ++ [y])) ∧ (T false → Iv (i + 1) acc)) ∧
      ∀ acc, Iv ds.length acc → P (.list acc)
theorem lc_q {scope : Scope} {P : D → Prop} {c : Option Expr} {x : Str} {wi : TI} (j : Nat) (hj : δ[j]? = some none)
    (hw : ∀ B O0 M Lk σ τ H, At (GX X Tb) B O0 M Lk δ σ τ H → ∀ R : It → Hp → Prop, (∀ J ds κ H', At (GX X Tb) B O0 M Lk δ σ (κ ++ τ) H' → IterJ (GX X Tb) J ds κ → LcG X Tb scope elt δ j c P ds → R J H') → wi σ H R)
    {B : Hp} {O0 M : List Addr} {Lk : Lks} {σ : L2.St} {τ : List (V × D)} {H : Hp} (I : At (GX X Tb) B O0 M Lk δ σ τ H) {Q : VK} (q : ∀ v d H', At (GX X Tb) B O0 M Lk δ σ ((v, d) :: τ) H' → P d → Q v H') :
    tLc wi (gName j) (lcT X scope c) (fun σ H' Q => ∀ z H C cl fp, semE (blkX X z H scope C cl fp) elt σ H' Q) ([(x, j)].map (·.2)) σ H Q := by
  refine hw B O0 M Lk σ τ H I _ fun J ds κ H1 I1 it h1 => ?_
  obtain ⟨hlen, Iv, h0, hstep, hend⟩ := h1
  obtain ⟨O, I1⟩ := I1
  intro L hL
  obtain ⟨I2, ve, hBL⟩ := I1.hide (q := L) (ob := .lst []) hL
  have noh : ∀ p ∈ Lk.2, p.1 ≠ L := fun p hp z => by
    have := (I1.hid p hp).1
    rw [z, hL] at this
    cases this
  refine ⟨fun i m H => m = ds.length - i ∧ i ≤ ds.length ∧ ∃ ps : List (V × D), At (GX X Tb) B O0 M (Lk.1, (L, .lst (ps.map (·.1))) :: Lk.2) δ σ (ps ++ (κ ++ τ)) H ∧ ps.length ≤ i ∧ Iv i (ps.map (·.2)), ⟨_, rfl, Nat.zero_le _, [], ⟨_, I2⟩, Nat.le_refl _, h0⟩, fun i m H ⟨em, hi, ps, ⟨O, I3⟩, hal, hv⟩ => ?_⟩
  have itv := it B O0 M _ O δ σ (ps ++ (κ ++ τ)) H I3 (fun p hp => List.mem_append.mpr (.inr (List.mem_append.mpr (.inl hp)))) i
  by_cases hlt : i < ds.length
  · obtain ⟨go, yl⟩ := itv.1 hlt
    refine .inr ⟨go, fun H' => ∃ ps : List (V × D), At (GX X Tb) B O0 M (Lk.1, (L, .lst (ps.map (·.1))) :: Lk.2) δ σ (ps ++ (κ ++ τ)) H' ∧ ps.length ≤ i + 1 ∧ Iv (i + 1) (ps.map (·.2)), fun H' q1 => ⟨ds.length - (i + 1), by omega, rfl, hlt, q1⟩, fun v H' hy => ?_⟩
    obtain ⟨d, hd, I4⟩ := yl v H' hy
    obtain ⟨I5, rv⟩ := I4.pop1
    have ew : ∀ u, L2.wipe ((L2.wipe σ [j]).set j (some u)) [j] = L2.wipe σ [j] := fun u => by
      show ((σ.set j none).set j (some u)).set j none = σ.set j none
      rw [List.set_set, List.set_set]
    have eσ : ∀ u : Option V, List.set (L2.wipe σ (List.map (fun x => x.2) [(x, j)])) j u = σ.set j u := fun u => by
      show (σ.set j none).set j u = σ.set j u
      rw [List.set_set]
    refine ⟨ew v, ?_⟩
    rw [eσ]
    have I6 := I5.set (j := j) rv
    have back : ∀ {O : List Addr} {τ' : List (V × D)} {H4 : Hp}, AtO (GX X Tb) B O0 M (Lk.1, (L, .lst (ps.map (·.1))) :: Lk.2) O (δ.set j (some (.d d))) (σ.set j (some v)) τ' H4 → AtO (GX X Tb) B O0 M (Lk.1, (L, .lst (ps.map (·.1))) :: Lk.2) O δ σ τ' H4 := fun I =>
      I.unset hj (by rw [List.length_set]) fun i n => by rw [List.getElem?_set_ne (Ne.symm n)]
    have fin : ∀ {y : V} {dy : D} {H4 : Hp}, At (GX X Tb) B O0 M (Lk.1, (L, .lst (ps.map (·.1))) :: Lk.2) (δ.set j (some (.d d))) (σ.set j (some v)) ((y, dy) :: (ps ++ (κ ++ τ))) H4 → Iv (i + 1) (ps.map (·.2) ++ [dy]) →
        ∃ acc, H4 L = some (.lst acc) ∧ acc.length < sizeLine ∧ ∃ ps : List (V × D), At (GX X Tb) B O0 M (Lk.1, (L, .lst (ps.map (·.1))) :: Lk.2) δ σ (ps ++ (κ ++ τ)) (upd H4 L (.lst (acc ++ [y]))) ∧ ps.length ≤ i + 1 ∧ Iv (i + 1) (ps.map (·.2)) := fun {y dy H4} ⟨O4, I7⟩ hq => by
      have I8 := back I7
      refine ⟨_, (I8.hid _ List.mem_cons_self).1, ?_, ps ++ [(y, dy)], ?_, ?_, ?_⟩
      · rw [List.length_map]
        exact Nat.lt_of_le_of_lt (Nat.le_trans hal hi) hlen
      · obtain ⟨I9, _⟩ := I8.turn (ob' := .lst (ps.map (·.1) ++ [y])) noh
        rw [List.map_append]
        refine ⟨O4, I9.drops fun p hp => ?_⟩
        simp only [List.append_assoc, List.mem_append, List.mem_cons, List.cons_append, List.nil_append] at hp ⊢
        rcases hp with h | h | h
        · exact .inr (.inl h)
        · exact .inl h
        · exact .inr (.inr h)
      · rw [List.length_append]
        exact Nat.succ_le_succ hal
      · rw [List.map_append]
        exact hq
    have st := hstep i d _ hd hv
    cases c with
    | none => exact fun z H C cl fp => st z H C cl fp B O0 M _ _ _ _ ⟨O, I6⟩ _ fun y dy H4 I7 hq => fin I7 hq
    | some t =>
      obtain ⟨T, t1, t2, t3⟩ := st
      intro z H C cl fp
      refine t1 z H C cl fp B O0 M _ _ _ _ ⟨O, I6⟩ _ fun k H3 I7 hq => ?_
      cases k with
      | true => exact fun z H C cl fp => t2 hq z H C cl fp B O0 M _ _ _ _ I7 _ fun y dy H4 I8 hq => fin I8 hq
      | false =>
        obtain ⟨O4, I7⟩ := I7
        exact ⟨ps, ⟨O4, back I7⟩, Nat.le_succ_of_le hal, t3 hq⟩
  · have e : i = ds.length := by omega
    subst e
    obtain ⟨O', I5, le, eL⟩ := I3.show' noh
    refine .inl ⟨itv.2 (Nat.le_refl _), q _ _ _ ⟨O', (I5.drops (τ' := τ) fun p hp => ?_).push (.lst eL (rpA_of fun p hp => I5.tmp p (List.mem_append.mpr (.inl hp))))⟩ (hend _ hv)⟩
    exact List.mem_append.mpr (.inr (List.mem_append.mpr (.inr hp)))
/-- [elt for x in iter if c ..]: Iv by the number of items taken and the list made -/
theorem wpE_lc {x : Str} {px : Pos} {ifs : List Expr} {scope : Scope} {P : D → Prop} {c : Option Expr} (j : Nat) (hj : δ[j]? = some none)
    (h : wpI X Tb (.Name x px) iter δ fun ds => ds.length < sizeLine ∧ ∃ Iv : Nat → List D → Prop, Iv 0 [] ∧ (∀ i d acc, ds[i]? = some d → Iv i acc →
      match c with
      | none => ∀ z H C cl fp, wpE (blkX X z H scope C cl fp) Tb elt (δ.set j (some (.d d))) fun y => Iv (i + 1) (acc ++ [y])
      | some t => ∃ T : Bool → Prop, (∀ z H C cl fp, wpT (blkX X z H scope C cl fp) Tb t (δ.set j (some (.d d))) T) ∧ (T true → ∀ z H C cl fp, wpE (blkX X z H scope C cl fp) Tb elt (δ.set j (some (.d d))) fun y => Iv (i + 1) (acc ++ [y])) ∧ (T false → Iv (i + 1) acc)) ∧
      ∀ acc, Iv ds.length acc → P (.list acc))
    (hc : X.calm = true) (hN : X.N.Nodup) (ok : BlkOk X.N X.env.scope scope [(x, j)]) (hifs : ifs = c.toList) (hi : X.N[j]? = some x := by rfl) (hloc : ∀ C cl, Loc (compEnvC scope cl C X.env).scope x := by intro _ _; first | exact Or.inl rfl | exact Or.inr rfl)
    (hlo : ∀ C cl, (compEnvC scope cl C X.env).scope.names.lookup x = some .local := by intro _ _; rfl)
    (hs : ∀ x, foldedSetIterable iter X.env x = pure x := by intro _; rfl) : wpE X Tb (.ListComp elt [⟨.Name x px, iter, ifs, 0⟩] scope pos) δ P := fun B O0 M Lk σ τ H I Q q => by
  obtain ⟨wi, hwi, hw⟩ := h
  have gtr : ∀ (z : Shared) (H : Hp) (C : Addr) (cl : List (Str × Addr)) (fp : List Addr), PG (X.blk z H scope (compEnvC scope cl C X.env) fp) (.Name x px) (gName j) := fun z H C cl fp => pg_name hN hi (hloc C cl) (.inr (hlo C cl))
  have etr : ∀ (z : Shared) (H : Hp) (C : Addr) (cl : List (Str × Addr)) (fp : List Addr), PE (X.blk z H scope (compEnvC scope cl C X.env) fp) elt (fun σ H' Q => ∀ z H C cl fp, semE (blkX X z H scope C cl fp) elt σ H' Q) := fun z H C cl fp => ⟨fun pins s σ H' Q I h => (h z H C cl fp).run pins s I⟩
  have ttr : ∀ (z : Shared) (H : Hp) (C : Addr) (cl : List (Str × Addr)) (fp : List Addr), PTs (X.blk z H scope (compEnvC scope cl C X.env) fp) ifs (lcT X scope c) := fun z H C cl fp => by
    subst hifs
    cases c with
    | none => exact pts_nil
    | some t => exact pts_one ⟨fun pins s σ H' Q I h => (h z H C cl fp).run pins s I⟩
  exact sem_e (pe_lc hc hN hwi ok gtr ttr etr hs) (lc_q j hj hw I q)
/-- name = [elt for x in iter if c ..] -/
theorem wpS_setLc {R : Rs} {x y : Str} {px py : Pos} {spos : Pos} {ifs : List Expr} {scope : Scope} {c : Option Expr} (jy j : Nat) (hj : δ[j]? = some none)
    (h : wpI X Tb (.Name x px) iter δ (LcG X Tb scope elt δ j c fun d => R.nx (δ.set jy (some (.d d)))))
    (hc : X.calm = true) (hN : X.N.Nodup) (ok : BlkOk X.N X.env.scope scope [(x, j)]) (hifs : ifs = c.toList) (hi : X.N[j]? = some x := by rfl) (hloc : ∀ C cl, Loc (compEnvC scope cl C X.env).scope x := by intro _ _; first | exact Or.inl rfl | exact Or.inr rfl)
    (hlo : ∀ C cl, (compEnvC scope cl C X.env).scope.names.lookup x = some .local := by intro _ _; rfl)
    (hs : ∀ x, foldedSetIterable iter X.env x = pure x := by intro _; rfl) (hy : X.N[jy]? = some y := by rfl) (hyl : X.env.scope.names.lookup y = some .local := by rfl) (hsw : swapsWith (.ListComp elt [⟨.Name x px, iter, ifs, 0⟩] scope pos) (some (.Name y py)) spos.line X.env = pure true := by rfl) : wpS X Tb (.Assign [.Name y py] (.ListComp elt [⟨.Name x px, iter, ifs, 0⟩] scope pos) spos) δ R := fun B O0 M Lk σ τ H I => by
  obtain ⟨wi, hwi, hw⟩ := h
  have gtr : ∀ (z : Shared) (H : Hp) (C : Addr) (cl : List (Str × Addr)) (fp : List Addr), PG (X.blk z H scope (compEnvC scope cl C X.env) fp) (.Name x px) (gName j) := fun z H C cl fp => pg_name hN hi (hloc C cl) (.inr (hlo C cl))
  have etr : ∀ (z : Shared) (H : Hp) (C : Addr) (cl : List (Str × Addr)) (fp : List Addr), PE (X.blk z H scope (compEnvC scope cl C X.env) fp) elt (fun σ H' Q => ∀ z H C cl fp, semE (blkX X z H scope C cl fp) elt σ H' Q) := fun z H C cl fp => ⟨fun pins s σ H' Q I h => (h z H C cl fp).run pins s I⟩
  have ttr : ∀ (z : Shared) (H : Hp) (C : Addr) (cl : List (Str × Addr)) (fp : List Addr), PTs (X.blk z H scope (compEnvC scope cl C X.env) fp) ifs (lcT X scope c) := fun z H C cl fp => by
    subst hifs
    cases c with
    | none => exact pts_nil
    | some t => exact pts_one ⟨fun pins s σ H' Q I h => (h z H C cl fp).run pins s I⟩
  refine sem_s (ps_setLc hc hN hy hyl hsw hwi ok gtr ttr etr hs) (lc_q (P := fun d => R.nx (δ.set jy (some (.d d)))) j hj hw I fun v d H' J h => ?_)
  obtain ⟨O, J⟩ := J
  obtain ⟨J0, rv⟩ := J.pop1
  exact ⟨_, ⟨O, J0.set (j := jy) rv⟩, h⟩

/-! ### any, all -/
theorem AtO.front {G : Glo} {B : Hp} {O0 M O : List Addr} {Lk : Lks} {σ : L2.St} {τ : List (V × D)} {H : Hp} {v : V} {d : D} (I : AtO G B O0 M Lk O δ σ τ H) (r : Rp (vis O H) v d) : AtO G B O0 M Lk O (some (.d d) :: δ) (some v :: σ) τ H := by
  refine ⟨I.sub0, I.subM, I.o0, I.new, I.live, I.gr, fun p hp => ⟨(I.hid p hp).1, (I.hid p hp).2.1, (I.hid p hp).2.2.1, fun i o e => ?_⟩, I.hidT, I.feeds, I.tabs, I.tmp, by rw [List.length_cons, List.length_cons, I.len], fun i sl e => ?_, fun i k o o' q e1 e2 e3 e4 => ?_, I.lck, I.nof, I.inn.map (fun i => i - 1) (fun i j o o' e1 e2 z => by
    cases i with
    | zero => cases e1
    | succ i =>
      cases j with
      | zero => cases e2
      | succ j => rw [show i = j from z]) (fun i o e => by
    cases i with
    | zero => cases e
    | succ i => exact ⟨o, e, rfl, rfl⟩)⟩
  · cases i with
    | zero => cases e
    | succ i => exact (I.hid p hp).2.2.2 i o e
  · cases i with
    | zero =>
      cases e
      exact ⟨v, rfl, r⟩
    | succ i => exact I.slots i sl e
  · cases i with
    | zero => cases e1
    | succ i =>
      cases k with
      | zero => cases e2
      | succ k => rw [I.sep i k o o' q e1 e2 e3 e4]
theorem AtO.back {G : Glo} {B : Hp} {O0 M O : List Addr} {Lk : Lks} {σ : L2.St} {τ : List (V × D)} {H : Hp} {s : Option Sl} {u : Option V} (I : AtO G B O0 M Lk O (s :: δ) (u :: σ) τ H) : AtO G B O0 M Lk O δ σ τ H :=
  ⟨I.sub0, I.subM, I.o0, I.new, I.live, I.gr, fun p hp => ⟨(I.hid p hp).1, (I.hid p hp).2.1, (I.hid p hp).2.2.1, fun i o e => (I.hid p hp).2.2.2 (i + 1) o e⟩, I.hidT, I.feeds, I.tabs, I.tmp, Nat.succ.inj I.len, fun i sl e => I.slots (i + 1) sl e, fun i k o o' q e1 e2 e3 e4 => Nat.succ.inj (I.sep (i + 1) (k + 1) o o' q e1 e2 e3 e4), I.lck, I.nof, I.inn.map (fun i => i + 1) (fun _ _ _ _ _ _ z => Nat.succ.inj z) fun i o e => ⟨o, e, rfl, rfl⟩⟩
theorem tabbed_gr {P : Addr} {H1 H2 : Hp} (h : GxR.TabG H1 P) (t : GxR.Tabbed P H1 H2) : Gr [] [] H1 H2 := fun a o _ e => by
  by_cases ha : a = P
  · obtain ⟨ps, e1, _⟩ := h
    obtain ⟨⟨ps', e2, t2⟩, _⟩ := t
    rw [ha, e1] at e
    cases e
    exact .inr (.inl ⟨ps, ps', rfl, by rw [ha]; exact e2, t2⟩)
  · exact .inl (by rw [t.2 a ha]; exact e)
theorem tabbed_nf {P : Addr} {H1 H2 : Hp} (h : GxR.TabG H1 P) (t : GxR.Tabbed P H1 H2) : Nf H1 H2 := fun a od u e => by
  by_cases ha : a = P
  · obtain ⟨ps, h, _⟩ := h
    rw [ha, h]
    exact fun z => nomatch z
  · rw [t.2 a ha] at e
    rw [e]
    exact fun z => nomatch z
abbrev gX (X : Cx) (x : Str) (scope : Scope) (z : Shared) (H : Hp) (code : Value) (C : Addr) (fp : List Addr) (A' : Around) : Cx := GX.genX X x z H (GX.gEnv X scope code C) fp A'
/-- what is to be shown of any (sb: true), all (sb: false) over the items ds -/
def AnyAll (X : Cx) (Tb : List Addr) (k : Nat) (x : Str) (scope : Scope) (elt : Expr) (δ : Dl) (sb : Bool) (P : D → Prop) (ds : List D) : Prop := ∃ Iv : Nat → Prop, Iv 0 ∧
  (∀ i d, ds[i]? = some d → Iv i → ∀ z H code C fp A', Room k A' → wpE (gX X x scope z H code C fp A') Tb elt (some (.d d) :: δ) fun y => ∃ b, y = .bool b ∧ if b = sb then P (.bool sb) else Iv (i + 1)) ∧ (Iv ds.length → P (.bool (!sb)))
theorem tgen_of {x : Str} {scope : Scope} {P : D → Prop} {k : Nat} {sb : Bool} {Pt : Addr} {wi : TI} (hP : Pt ∈ Tb)
    (hw : ∀ B O0 M Lk σ τ H, At (GX X Tb) B O0 M Lk δ σ τ H → ∀ R : It → Hp → Prop, (∀ J ds κ H', At (GX X Tb) B O0 M Lk δ σ (κ ++ τ) H' → IterJ (GX X Tb) J ds κ → AnyAll X Tb k x scope elt δ sb P ds → R J H') → wi σ H R)
    {B : Hp} {O0 M : List Addr} {Lk : Lks} {σ : L2.St} {τ : List (V × D)} {H : Hp} (I : At (GX X Tb) B O0 M Lk δ σ τ H) {Q : VK} (q : ∀ v d H', At (GX X Tb) B O0 M Lk δ σ ((v, d) :: τ) H' → P d → Q v H') :
    GX.tGen sb Pt wi (gName 0) (fun σ H' Q => ∀ z H code C fp A', Room k A' → semE (gX X x scope z H code C fp A') elt σ H' Q) σ H Q := by
  refine hw B O0 M Lk σ τ H I _ fun J ds κ H1 I1 it ⟨Iv, h0, hstep, hend⟩ => ?_
  obtain ⟨O, I1⟩ := I1
  have hT := I1.tabs Pt hP
  refine ⟨hT, fun H2 ht => ⟨fun i m H => m = ds.length - i ∧ i ≤ ds.length ∧ At (GX X Tb) B O0 M Lk δ σ (κ ++ τ) H ∧ Iv i, ⟨_, rfl, Nat.zero_le _, At.grow0 ⟨O, I1⟩ (tabbed_gr hT ht) (tabbed_nf hT ht), h0⟩, fun i m H3 ⟨em, hi, ⟨O3, I3⟩, hv⟩ => ?_⟩⟩
  have itv := it B O0 M Lk O3 δ σ (κ ++ τ) H3 I3 (fun p hp => List.mem_append.mpr (.inl hp)) i
  by_cases hlt : i < ds.length
  · obtain ⟨go, yl⟩ := itv.1 hlt
    refine .inr ⟨go, fun y H4 hy o => ⟨⟨some y, rfl⟩, fun z H code C fp A' hr => ?_⟩⟩
    obtain ⟨d, hd, I4⟩ := yl y H4 hy
    obtain ⟨I5, rv⟩ := I4.pop1
    refine hstep i d hd hv z H code C fp A' hr B O0 M Lk (some y :: σ) (κ ++ τ) H4 ⟨O3, I5.front rv⟩ _ fun v dv H5 I6 h6 => ?_
    obtain ⟨b, rfl, h6⟩ := h6
    obtain ⟨O6, I6⟩ := I6
    obtain ⟨I7, rb⟩ := I6.pop1
    cases rb
    refine ⟨b, rfl, ?_⟩
    by_cases hb : b = sb
    · rw [if_pos hb] at h6 ⊢
      exact q _ _ H5 ⟨O6, (I7.back.drops (τ' := τ) fun p hp => List.mem_append.mpr (.inr hp)).push (.bl sb)⟩ h6
    · rw [if_neg hb] at h6 ⊢
      exact ⟨ds.length - (i + 1), by omega, rfl, hlt, ⟨O6, I7.back⟩, h6⟩
  · have e : i = ds.length := by omega
    subst e
    exact .inl ⟨itv.2 (Nat.le_refl _), q _ _ H3 ⟨O3, (I3.drops (τ' := τ) fun p hp => List.mem_append.mpr (.inr hp)).push (.bl _)⟩ (hend hv)⟩
theorem wpE_any {x : Str} {px gpos : Pos} {scope : Scope} {P : D → Prop} {k : Nat} {c Pt : Addr} (hr : Room (k + 1) X.A) (hm : X.mg "any" = none) (TB : GxR.TabB X.base X.mg c Pt) (hP : Pt ∈ Tb) (hcode : X.env.code = .ref c) (hN : X.N.Nodup) (ok : GX.GenOk X.N X.env.scope scope x)
    (h : wpI X Tb (.Name x px) iter δ (AnyAll X Tb k x scope elt δ true P)) (hgl : Gl X "any" := by rfl) (hs : ∀ v, genFold iter X.env v = pure v := by intro _; rfl)
    (hst : starEach [.GeneratorExp elt [⟨.Name x px, iter, [], 0⟩] scope gpos] X.env = (false, eval (.GeneratorExp elt [⟨.Name x px, iter, [], 0⟩] scope gpos) X.env) :: starEach [] X.env := by rfl) :
    wpE X Tb (.Call (.Name "any" p) [.GeneratorExp elt [⟨.Name x px, iter, [], 0⟩] scope gpos] [] pos) δ P := fun B O0 M Lk σ τ H I Q q => by
  obtain ⟨wi, hi, hw⟩ := h
  have hx : x ∉ X.N := ok.own _ (PySem.mem_of_lookup ok.loc) rfl
  exact sem_e (GX.pe_any hr hgl hm TB hcode ok hi (fun z H code C fp A' => pg_name (List.nodup_cons.mpr ⟨hx, hN⟩) rfl (.inl ok.loc) (.inr ok.loc)) (fun z H code C fp A' hr' => ⟨fun pins s σ H' Q I h => (h z H code C fp A' hr').run pins s I⟩) hs hst) (tgen_of hP hw I q)
theorem wpE_all {x : Str} {px gpos : Pos} {scope : Scope} {P : D → Prop} {k : Nat} {c Pt : Addr} (hr : Room (k + 1) X.A) (hm : X.mg "all" = none) (TB : GxR.TabB X.base X.mg c Pt) (hP : Pt ∈ Tb) (hcode : X.env.code = .ref c) (hN : X.N.Nodup) (ok : GX.GenOk X.N X.env.scope scope x)
    (h : wpI X Tb (.Name x px) iter δ (AnyAll X Tb k x scope elt δ false P)) (hgl : Gl X "all" := by rfl) (hs : ∀ v, genFold iter X.env v = pure v := by intro _; rfl)
    (hst : starEach [.GeneratorExp elt [⟨.Name x px, iter, [], 0⟩] scope gpos] X.env = (false, eval (.GeneratorExp elt [⟨.Name x px, iter, [], 0⟩] scope gpos) X.env) :: starEach [] X.env := by rfl) :
    wpE X Tb (.Call (.Name "all" p) [.GeneratorExp elt [⟨.Name x px, iter, [], 0⟩] scope gpos] [] pos) δ P := fun B O0 M Lk σ τ H I Q q => by
  obtain ⟨wi, hi, hw⟩ := h
  have hx : x ∉ X.N := ok.own _ (PySem.mem_of_lookup ok.loc) rfl
  exact sem_e (GX.pe_all hr hgl hm TB hcode ok hi (fun z H code C fp A' => pg_name (List.nodup_cons.mpr ⟨hx, hN⟩) rfl (.inl ok.loc) (.inr ok.loc)) (fun z H code C fp A' hr' => ⟨fun pins s σ H' Q I h => (h z H code C fp A' hr').run pins s I⟩) hs hst) (tgen_of hP hw I q)
end

/-! ### a def by its body -/
def startD (m : Nat) (ds : List D) (N : List Str) : Dl := List.replicate m (some (.own .feed)) ++ ds.map (fun d => some (.d d)) ++ List.replicate (N.length - (m + ds.length)) none
/-- a def as it stands behind the top, its code object at c -/
structure FunC (K : PySem.W.Frag) (x qual : Str) (st : Stmt) (f c : Addr) (fd : FuncData) : Prop where
  ex : ∃ (oc : Value) (od : Option Addr) (kV doc pm : Value) (an : Option Addr) (ct : Value) (osl : Array (Option Value)),
    fd = PySem.W.fnOf x qual (defArgs st) (defBody st) (defScope st) .none kV doc pm an (.ref c) ct ∧ K.lookup f = some ⟨oc, od, .func fd, osl⟩ ∧ PySem.W.codeIn K (.ref c) qual = true
  kp : PySem.W.keepIn K (.ref f) = true
theorem FunC.fun {K : PySem.W.Frag} {x qual : Str} {st : Stmt} {f c : Addr} {fd : FuncData} (F : FunC K x qual st f c fd) : Fun K x qual st f fd := by
  obtain ⟨oc, od, kV, doc, pm, an, ct, osl, h⟩ := F.ex
  exact ⟨⟨oc, od, kV, doc, pm, an, _, ct, osl, h⟩, F.kp⟩
theorem at_start {G : Glo} {H : Hp} {O0 M : List Addr} {ws : List V} {ds : List D} {N : List Str} (hM : M.length ≤ 1) (h1 : ∀ p ∈ M, p ∈ O0) (h2 : ∀ p ∈ O0, H p ≠ none) (h3 : ∀ f ∈ M, FeedAt H f) (h4 : ∀ P ∈ G.Tb, GxR.TabG H P) (r : RpA (vis O0 H) ws ds) (hl : M.length + ds.length ≤ N.length) :
    At G H O0 M ([], []) (startD M.length ds N) (L2.start N (M.map V.ref ++ ws)) [] H := by
  have hws := r.length
  have slots : ∀ (i : Nat) (sl : Sl), (startD M.length ds N)[i]? = some (some sl) → (∃ f, M[i]? = some f ∧ sl = .own .feed) ∨ (M.length ≤ i ∧ ∃ d, ds[i - M.length]? = some d ∧ sl = .d d) := fun i sl e => by
    unfold startD at e
    by_cases hi : i < M.length
    · rw [List.append_assoc, List.getElem?_append_left (by simpa using hi), List.getElem?_replicate, if_pos hi] at e
      cases e
      exact .inl ⟨_, List.getElem?_eq_getElem hi, rfl⟩
    · rw [List.append_assoc, List.getElem?_append_right (by simpa using hi), List.length_replicate] at e
      by_cases hj : i - M.length < ds.length
      · rw [List.getElem?_append_left (by simpa using hj), List.getElem?_map, List.getElem?_eq_getElem hj] at e
        cases e
        exact .inr ⟨by omega, _, List.getElem?_eq_getElem hj, rfl⟩
      · rw [List.getElem?_append_right (by simpa using hj), List.getElem?_replicate] at e
        split at e <;> cases e
  have vals : ∀ (i : Nat) (v : V), (M.map V.ref ++ ws)[i]? = some v → (L2.start N (M.map V.ref ++ ws))[i]? = some (some v) := fun i v e => by
    have hi := (List.getElem?_eq_some_iff.mp e).1
    unfold L2.start
    rw [List.getElem?_append_left (by rw [List.length_map]; exact hi), List.getElem?_map, e]
    rfl
  refine ⟨O0, fun _ h => h, h1, h2, fun p hp => .inl hp, h2, Gr.refl _ _ _, (fun _ z => nomatch z), (fun _ z => nomatch z), h3, h4, (fun _ z => nomatch z), ?_, fun i sl e => ?_, fun i k o o' q e1 e2 e3 e4 => ?_, (fun _ z => nomatch z), fun a od u e => .inl (by rw [e]; exact fun z => nomatch z), .none fun i o e => (by
    rcases slots i _ e with ⟨f, _, hf⟩ | ⟨_, d, _, hd⟩
    · cases hf
      rfl
    · cases hd)⟩
  · unfold startD L2.start
    simp only [List.length_append, List.length_replicate, List.length_map]
    omega
  · rcases slots i sl e with ⟨f, hf, rfl⟩ | ⟨hi, d, hd, rfl⟩
    · have hlt := (List.getElem?_eq_some_iff.mp hf).1
      refine ⟨.ref f, vals i _ (by rw [List.getElem?_append_left (by rw [List.length_map]; exact hlt), List.getElem?_map, hf]; rfl), f, rfl, h1 f (List.mem_of_getElem? hf), .inl (List.mem_of_getElem? hf), .inl rfl, h3 f (List.mem_of_getElem? hf)⟩
    · obtain ⟨v, hv, rv⟩ := r.get hd
      exact ⟨v, vals i v (by rw [List.getElem?_append_right (by rw [List.length_map]; exact hi), List.length_map]; exact hv), rv⟩
  · have z : ∀ {i : Nat} {o : OD}, (startD M.length ds N)[i]? = some (some (Sl.own o)) → i = 0 := fun {i o} e => by
      rcases slots i _ e with ⟨f, hf, _⟩ | ⟨_, d, _, hd⟩
      · have := (List.getElem?_eq_some_iff.mp hf).1
        omega
      · cases hd
    rw [z e1, z e2]
theorem fn_ok {Pg : Program} {w : World} {K : PySem.W.Frag} {mg : Str → Option Value} {base : Heap} {x qual : Str} {st : Stmt} {f c : Addr} {fd : FuncData} {N ps : List Str} {k m n : Nat} {Tb : List Addr} {pre : List D → Prop} {post : List D → D → Prop} (F : FunC K x qual st f c fd) (S : FnScope N ps (defScope st)) (hm : m ≤ 1) (hn : ps.length = m + n)
    (hbody : ∀ (A : Around) (outer : List Env) (s : Shared) (H : Hp) (E : XK) (ds : List D), Room k (A.deeper (PyProof.Rows.envOfC qual (defScope st) s.heap.objs.size f (.ref c))) → ds.length = n → pre ds →
      wpSs (cxOf CX0 Pg w K mg base N qual (defScope st) f (.ref c) A outer s H E).nox Tb (defBody st) (startD m ds N) { nx := fun _ => post ds .none, rt := post ds }) : FnOk Pg w K mg base CX0 (k + 1) f fd ps (spD Tb m n pre post) := by
  obtain ⟨oc, od, kV, doc, pm, an, ct, osl, rfl, lk, hcd⟩ := F.ex
  have hpl : ps.length ≤ N.length := by have := congrArg List.length S.pre; rw [List.length_take] at this; omega
  refine fn_of lk hcd S (fun vs H Q E h => ?_) fun A outer s H vs Q E hr hsp => ?_
  · obtain ⟨O0, M, ws, ds, rfl, hMl, _, _, _, _, r, hd, _⟩ := h
    rw [List.length_append, List.length_map, r.length, hMl, hd, hn]
  · obtain ⟨O0, M, ws, ds, rfl, hMl, h1, h2, h3, h4, r, hd, hp, q⟩ := hsp
    have hb := hbody A outer s H E ds hr hd hp
    subst hMl
    have I := at_start (G := ⟨K, Tb⟩) (N := N) hm h1 h2 h3 h4 r (by omega)
    refine ⟨_, pss_sem.nox, semSs_le ⟨fun σ' H' h => ?_, fun v H' h => ?_, fun _ _ h => ?_, fun _ _ h => ?_⟩ (hb H O0 M ([], []) _ [] H I)⟩
    · obtain ⟨δ', J, h⟩ := h
      have Jr := (J.pushS (v := .non) (d := .none) fun _ => .non).ret
      exact q _ _ H' Jr.gr (fun a od u e => (Jr.nof a od u e).resolve_right (fun z => nomatch z)) Jr.feeds Jr.rp h
    · obtain ⟨d, J, h⟩ := h
      exact q _ _ H' J.gr (fun a od u e => (J.nof a od u e).resolve_right (fun z => nomatch z)) J.feeds J.rp h
    · obtain ⟨_, _, h⟩ := h
      exact h
    · obtain ⟨_, _, h⟩ := h
      exact h
end DL

set_option Elab.async false
set_option linter.all false
set_option maxRecDepth 100000
set_option maxHeartbeats 2000000
/-! DL7: list(dict), dict displays, targets of several names, the script. -/
namespace DL
open PySem PySem.Spec L2

section
variable {X : Cx} {Tb : List Addr} {δ : Dl} {tg e a b iter elt : Expr} {es : List Expr} {pos p : Pos}
/-- list(d), d a dict that a loop may walk -/
def rKeys : List V → Hp → VK → Prop := fun us H Q => ∃ d kvs, us = [.ref d] ∧ Rd H d (.dK kvs) ∧ ∀ q, H q = none → Q (.ref q) (upd H q (.lst ((kvs.map (·.1)).map kV)))
theorem call_keys (hc : X.calm = true) : CallR X (.type "list") rKeys := by
  intro pn s σ H vs us Q I rv ⟨d, kvs, ev, hd, q⟩
  subst ev
  obtain ⟨u, rfl, ru⟩ := vals1 rv
  obtain rfl : u = Value.ref d := ru
  obtain ⟨hz, hlo, ws, rk, hdo⟩ := (show ObjOk X.prog X.w H s.heap d (.dK kvs) from hd.ok I.hok)
  obtain ⟨ep, hat⟩ := hdo.dictAt
  have hlen : kvs.length = ws.length := Paired.length rk
  have run := PySem.W.kdl_dict (prog := X.prog) (w := X.w) (knd := mixKind X.prog X.w) (kvs := ws) (ep := ep) hlo
  refine PySem.W.kdl_call run (I.ok.hd hc) hat (hlen ▸ hz) fun h2 tk arr cap keep hnew hk => ?_
  have sz : arr.toList.length = kvs.length := by simp [hk.1, hlen]
  have items : Vals ((kvs.map (·.1)).map kV) arr.toList := by
    refine vals_of_at (by rw [sz, List.length_map, List.length_map]) fun j x y h1 h2 => ?_
    obtain ⟨k, y', e1, e2⟩ := hk.2 j y (by rw [← Array.getElem?_toList]; exact h2)
    rw [List.getElem?_map, KV.keys rk, List.getElem?_map, e1] at h1
    cases h1
    exact keyIs_rel e2
  refine ⟨.ref s.heap.objs.size, _, I.laid keep (Nat.le_refl _) (o := .lst ((kvs.map (·.1)).map kV)) ⟨?_, arr.toList, cap, items, ?_⟩, rfl, q _ (I.hok.fresh (Nat.le_refl _))⟩
  · rw [List.length_map, List.length_map]
    exact hz
  · rw [Array.toArray_toList]
    exact hnew
def listR : List D → (D → Prop) → Prop
  | [.list ds], P => P (.list ds)
  | [.tuple ds], P => P (.list ds)
  | [.dict ks], P => isM ks = false ∧ P (.list (ks.map (·.1)))
  | _, _ => False
theorem keysA {H H' : Hp} : ∀ {kvs : List (Key × V)} {ds : List (D × D)}, RpK H kvs ds → RpA H' ((kvs.map (·.1)).map kV) (ds.map (·.1))
  | _, _, .nil => .nil
  | _, _, .cons (k := k) h r => .cons (by cases k with | inl i => exact .int i | inr x => exact .str x) (keysA r)
theorem call_listD (hc : X.calm = true) : CallR X (.type "list") (fun xs H Q => (∃ p ys, xs = [.ref p] ∧ (SqL X.K H p ys ∨ SqT X.K H p ys) ∧ ∀ l, H l = none → Q (.ref l) (upd H l (.lst ys))) ∨ rKeys xs H Q) := CallR.or call_list_of (call_keys hc)
theorem ok_list : OkC X Tb (fun xs H Q => (∃ p ys, xs = [.ref p] ∧ (SqL X.K H p ys ∨ SqT X.K H p ys) ∧ ∀ l, H l = none → Q (.ref l) (upd H l (.lst ys))) ∨ rKeys xs H Q) listR := by
  intro B O0 M Lk O δ σ τ H vs ds P I r h Q q
  unfold listR at h
  split at h
  · obtain ⟨v, rfl, rv⟩ := r.one'
    obtain ⟨p, xs, rfl, hp, rp⟩ := rv.list'
    exact .inl ⟨p, xs, rfl, .inl (SqL.of (vis_some hp).2), fun l hl => q _ _ _ ⟨O, I.newLst rp hl⟩ h⟩
  · obtain ⟨v, rfl, rv⟩ := r.one'
    obtain ⟨p, xs, rfl, hp, rp⟩ := rv.tuple'
    exact .inl ⟨p, xs, rfl, .inr (SqT.of (vis_some hp).2), fun l hl => q _ _ _ ⟨O, I.newLst rp hl⟩ h⟩
  · obtain ⟨v, rfl, rv⟩ := r.one'
    obtain ⟨p, kvs, rfl, hp, _, rp⟩ := rv.dict' h.1
    exact .inr ⟨p, kvs, rfl, hp.elim (fun e => .inl (vis_some e).2) fun ⟨o, e⟩ => .inr ⟨o, (vis_some e).2⟩, fun l hl => q _ _ _ ⟨O, I.newLst (keysA rp) hl⟩ h.2⟩
  · exact h.elim

/-! ### targets of several names -/
/-- the names js, one after the other, take the data ds -/
def setAll : Dl → List Nat → List D → Dl
  | δ, j :: js, d :: ds => setAll (δ.set j (some (.d d))) js ds
  | δ, _, _ => δ
def gAll : List Nat → TGs
  | [] => gNil
  | j :: js => gCons (gName j) (gAll js)
theorem gAll_of {G : Glo} {B : Hp} {O0 M O : List Addr} {Lk : Lks} {τ : List (V × D)} {H : Hp} : ∀ {js : List Nat} {vs : List V} {ds : List D} {δ : Dl} {σ : L2.St} {Q : L2.St → Hp → Prop}, AtO G B O0 M Lk O δ σ τ H → RpA (vis O H) vs ds → js.length = ds.length →
    (∀ σ', AtO G B O0 M Lk O (setAll δ js ds) σ' τ H → Q σ' H) → gAll js vs σ H Q
  | [], _, _, _, _, _, I, .nil, _, q => ⟨rfl, q _ I⟩
  | j :: js, _, _, _, _, _, I, .cons h r, hl, q => ⟨_, _, rfl, gAll_of (I.set (j := j) h) r (Nat.succ.inj hl) q⟩
  | [], _, _, _, _, _, _, .cons _ _, hl, _ => by cases hl
  | _ :: _, _, _, _, _, _, _, .nil, hl, _ => by cases hl
theorem wpG_tup {k : Nat} {js : List Nat} {d : D} {P : Dl → Prop} (hg : PGs X es (gAll js)) (h : ∃ ds, d = .tuple ds ∧ js.length = ds.length ∧ P (setAll δ js ds)) (hc : X.calm = true) (hn : (assignEach es X.env).length = js.length := by rfl) (hst : (assignEach es X.env).findIdx? (·.1) = none := by rfl) :
    wpG X Tb (.Tuple es k pos) d δ P := fun B O0 M Lk σ τ H v J Q q => ⟨fun pins s u I r => by
  obtain ⟨ds, rfl, hl, h⟩ := h
  obtain ⟨O, J⟩ := J
  obtain ⟨J0, rv⟩ := J.pop1
  obtain ⟨a, xs, rfl, ha, rx⟩ := rv.tuple'
  exact (pg_tup (pos := pos) (k := k) hc hg hn hst).run pins s σ H _ u Q I r ⟨a, xs, rfl, SqT.of (vis_some ha).2, by rw [rx.length, hl], gAll_of J0 rx hl fun σ' J' => q _ σ' H ⟨O, J'⟩ h⟩⟩
/-- a, b = e -/
theorem wpS_unp {R : Rs} (h : wpE X Tb e δ fun d => wpG X Tb tg d δ R.nx) (hs : swapsWithSole [tg] e pos.line X.env = pure false := by rfl) (hw : swappedStores [tg] e X.env = pure none := by rfl)
    (h1 : (assignEach [tg] X.env).map (·.2) = [assign tg X.env] := by rfl) : wpS X Tb (.Assign [tg] e pos) δ R := fun B O0 M Lk σ τ H I =>
  sem_s (ps_asg pe_sem pg_sem hs hw h1) (h B O0 M Lk σ τ H I _ fun v d H' J q => by
    exact q B O0 M Lk σ τ H' v J _ (fun δ' σ' H2 J2 q2 => ⟨δ', J2, q2⟩))
/-- a, b = x, y -/
theorem wpS_par {R : Rs} {i j : Nat} {x y : Str} {px py pt : Pos} {kt k2 : Nat} {pt2 : Pos} (h : wpA X Tb [a, b] δ fun ds => ∃ d e, ds = [d, e] ∧ R.nx ((δ.set i (some (.d d))).set j (some (.d e)))) (hc : X.calm = true) (hN : X.N.Nodup) (hij : i ≠ j) (hi : X.N[i]? = some x := by rfl) (hj : X.N[j]? = some y := by rfl)
    (hx : X.env.scope.names.lookup x = some .local := by rfl) (hy : X.env.scope.names.lookup y = some .local := by rfl) (hw : swappedStores [.Tuple [.Name x px, .Name y py] kt pt] (.Tuple [a, b] k2 pt2) X.env = pure (some [x, y]) := by kernel_rfl)
    (hs : swapsWithSole [.Tuple [.Name x px, .Name y py] kt pt] (.Tuple [a, b] k2 pt2) pos.line X.env = pure false := by kernel_rfl) : wpS X Tb (.Assign [.Tuple [.Name x px, .Name y py] kt pt] (.Tuple [a, b] k2 pt2) pos) δ R := fun B O0 M Lk σ τ H I =>
  sem_s (ps_par hc hN hi hj hij hx hy pa_sem hw hs) (h B O0 M Lk σ τ H I _ fun ps H' J q => by
    obtain ⟨d, e', ed, q⟩ := q
    obtain ⟨O, J⟩ := J
    obtain ⟨J0, r⟩ := J.popA
    rw [ed] at r
    obtain ⟨v, u, ev, rv, ru⟩ := r.two'
    exact ⟨v, u, ev, _, ⟨O, (J0.set (j := i) rv).set (j := j) ru⟩, q⟩)
end
end DL

set_option Elab.async false
set_option linter.all false
set_option maxRecDepth 100000
set_option maxHeartbeats 2000000
/-! DL8: dict displays; the script; dicts walked. -/
namespace DL
open PySem PySem.Spec L2

section
variable {X : Cx} {Tb : List Addr} {δ : Dl} {tg e a b iter elt : Expr} {es : List Expr} {pos p : Pos}
/-- the pairs of a display -/
structure Prs where
  k : V
  kd : D
  v : V
  vd : D
def semP (X : Cx) : List Expr → List Expr → List (TE × TE)
  | k :: ks, v :: vs => (semE X k, semE X v) :: semP X ks vs
  | _, _ => []
theorem pps_sem : ∀ {ks vs : List Expr}, ks.length = vs.length → PPs X pos (ks.map some) vs (semP X ks vs)
  | [], [], _ => pps_nil
  | k :: ks, v :: vs, h => pps_cons pe_sem pe_sem (pps_sem (Nat.succ.inj h))
  | [], _ :: _, h => by cases h
  | _ :: _, [], h => by cases h
def wpP (X : Cx) (Tb : List Addr) : List Expr → List Expr → Dl → (List (D × D) → Prop) → Prop
  | k :: ks, v :: vs, δ, P => wpE X Tb k δ fun dk => wpE X Tb v δ fun dv => wpP X Tb ks vs δ fun r => P ((dk, dv) :: r)
  | _, _, _, P => P []
theorem pairs_of : ∀ {ks vs : List Expr} {P : List (D × D) → Prop} {B : Hp} {O0 M : List Addr} {Lk : Lks} {σ : L2.St} {τ : List (V × D)} {H : Hp} {Q : List (V × V) → Hp → Prop}, wpP X Tb ks vs δ P → At (GX X Tb) B O0 M Lk δ σ τ H →
    (∀ (ps : List Prs) H', At (GX X Tb) B O0 M Lk δ σ (ps.map (fun p => (p.k, p.kd)) ++ (ps.map (fun p => (p.v, p.vd)) ++ τ)) H' → P (ps.map fun p => (p.kd, p.vd)) → Q (ps.map fun p => (p.k, p.v)) H') → tPairs (semP X ks vs) σ H Q
  | k :: ks, v :: vs, P, B, O0, M, Lk, σ, τ, H, Q, h, I, q => h B O0 M Lk σ τ H I _ fun x dx H1 I1 h1 => h1 B O0 M Lk σ _ H1 I1 _ fun y dy H2 I2 h2 => pairs_of h2 I2 fun ps H3 I3 h3 => q (⟨x, dx, y, dy⟩ :: ps) H3 (I3.drops fun p hp => by
      simp only [List.map_cons, List.cons_append, List.mem_cons, List.mem_append] at hp ⊢
      rcases hp with h | h | h | h | h
      · exact .inr (.inr (.inr (.inl h)))
      · exact .inl h
      · exact .inr (.inr (.inl h))
      · exact .inr (.inl h)
      · exact .inr (.inr (.inr (.inr h)))) h3
  | [], _, P, B, O0, M, Lk, σ, τ, H, Q, h, I, q => by
    have h : P [] := by
      unfold wpP at h
      exact h
    exact q [] H I h
  | _ :: _, [], P, B, O0, M, Lk, σ, τ, H, Q, h, I, q => q [] H I h
theorem merge_nodup : ∀ {more kvs : List (Key × V)}, ((kvs ++ more).map (·.1)).Nodup → mergeK kvs more = kvs ++ more
  | [], kvs, _ => by rw [List.append_nil]; rfl
  | p :: r, kvs, h => by
    have hn : valV kvs p.1 = none := by
      cases e : valV kvs p.1 with
      | none => rfl
      | some v =>
        rw [List.map_append, List.nodup_append] at h
        exact absurd rfl (h.2.2 _ (valV_in e) _ List.mem_cons_self)
    show mergeK (putK kvs p.1 p.2) r = _
    rw [putK_new p.2 hn]
    have h2 : ((kvs ++ [(p.1, p.2)] ++ r).map (·.1)).Nodup := by
      rw [List.append_assoc]
      exact h
    rw [merge_nodup h2, List.append_assoc]
    rfl
theorem rpK_mk {H : Hp} : ∀ {kvs : List (Key × V)} {ps : List Prs}, (ps.map fun p => (p.k, p.v)) = kvs.map (fun kv => (kV kv.1, kv.2)) → (∀ p ∈ ps, Rp H p.k p.kd) → (∀ p ∈ ps, Rp H p.v p.vd) → RpK H kvs (ps.map fun p => (p.kd, p.vd))
  | [], [], _, _, _ => .nil
  | (k, v) :: r, p :: ps, e, h1, h2 => by
    obtain ⟨pk, pkd, pv, pvd⟩ := p
    have e1 : pk = kV k := congrArg (fun l : List (V × V) => (l.headD (.non, .non)).1) e
    have e2 : pv = v := congrArg (fun l : List (V × V) => (l.headD (.non, .non)).2) e
    have e3 : (ps.map fun p => (p.k, p.v)) = r.map (fun kv => (kV kv.1, kv.2)) := List.cons.inj e |>.2
    have hk : pkd = kD k := by
      have := h1 _ List.mem_cons_self
      simp only at this
      rw [e1] at this
      cases k with
      | inl i => cases this; rfl
      | inr x => cases this; rfl
    show RpK H ((k, v) :: r) ((pkd, pvd) :: _)
    rw [hk]
    exact .cons (by rw [← e2]; exact h2 _ List.mem_cons_self) (rpK_mk e3 (fun q hq => h1 q (List.mem_cons_of_mem _ hq)) fun q hq => h2 q (List.mem_cons_of_mem _ hq))
  | [], _ :: _, e, _, _ => by cases e
  | _ :: _, [], e, _, _ => by cases e
theorem keysE {H : Hp} : ∀ {ps : List Prs} {ks : List Key}, ps.map (·.kd) = ks.map kD → (∀ p ∈ ps, Rp H p.k p.kd) → (ps.map fun p => (p.k, p.v)) = (ks.zip (ps.map (·.v))).map (fun kv => (kV kv.1, kv.2))
  | [], [], _, _ => rfl
  | p :: r, k :: ks, e, h => by
    have e1 : p.kd = kD k := (List.cons.inj e).1
    have hk1 : p.k = kV k := Rp.key (by rw [← e1]; exact h p List.mem_cons_self)
    show (p.k, p.v) :: _ = (kV k, p.v) :: _
    rw [hk1, keysE (List.cons.inj e).2 fun q hq => h q (List.mem_cons_of_mem _ hq)]
    rfl
  | [], _ :: _, e, _ => by cases e
  | _ :: _, [], e, _ => by cases e
/-- {k: v, ..} with keys that differ: ks, the keys -/
theorem wpE_disp {P : D → Prop} {kes vs : List Expr} {keys : List (Option Expr)} (hk : keys = kes.map some) (h : wpP X Tb kes vs δ fun kvs => kvs.length ≤ 15 ∧ (∃ ks : List Key, kvs.map (·.1) = ks.map kD ∧ ks.Nodup) ∧ P (.dict kvs)) (hl : kes.length = vs.length := by rfl) (h0 : keys ≠ [] := by exact fun z => nomatch z) (h15 : keys.length ≤ 15 := by decide)
    (hall : keys.all (·.isSome) = true := by rfl) : wpE X Tb (.Dict keys vs pos) δ P := fun B O0 M Lk σ τ H I Q q => by
  subst hk
  refine sem_e (pe_disp (pps_sem hl) hall (by rw [List.length_map]; exact hl) h0 h15) fun L hL => ?_
  obtain ⟨O, I⟩ := I
  obtain ⟨I2, ve, hBL⟩ := I.hide (q := L) (ob := .dK []) hL
  have noh : ∀ p ∈ Lk.2, p.1 ≠ L := fun p hp z => by
    have := (I.hid p hp).1
    rw [z, hL] at this
    cases this
  refine pairs_of h ⟨_, I2⟩ fun ps H' J ⟨hl15, ⟨ks, hks, hnd⟩, hP⟩ => ?_
  obtain ⟨O', J⟩ := J
  have hkd : ∀ p ∈ ps, Rp (vis O' H') p.k p.kd := fun p hp => J.tmp (p.k, p.kd) (List.mem_append.mpr (.inl (List.mem_map.mpr ⟨p, hp, rfl⟩)))
  have hvd : ∀ p ∈ ps, Rp (vis O' H') p.v p.vd := fun p hp => J.tmp (p.v, p.vd) (List.mem_append.mpr (.inr (List.mem_append.mpr (.inl (List.mem_map.mpr ⟨p, hp, rfl⟩)))))
  have hlen : ps.length = ks.length := by
    have := congrArg List.length hks
    simpa using this
  have kvsE := keysE (ps := ps) (ks := ks) (by rw [← hks, List.map_map]; rfl) hkd
  have hkeys : (ks.zip (ps.map (·.v))).map (·.1) = ks := by
    rw [List.map_fst_zip]
    rw [List.length_map, hlen]
    exact Nat.le_refl _
  have hlen15 : (ks.zip (ps.map (·.v))).length ≤ 15 := by
    rw [List.length_zip, List.length_map, hlen, Nat.min_self, ← hlen]
    have := hl15
    rwa [List.length_map] at this
  refine ⟨(J.hid _ List.mem_cons_self).1, _, kvsE, hlen15, ?_⟩
  have em : mergeK [] (ks.zip (ps.map (·.v))) = ks.zip (ps.map (·.v)) := merge_nodup (by rw [List.nil_append, hkeys]; exact hnd)
  rw [em]
  obtain ⟨J2, ve2⟩ := J.turn (ob' := .dK (ks.zip (ps.map (·.v)))) noh
  obtain ⟨O3, J3, le3, e3⟩ := J2.show' noh
  refine q _ _ _ ⟨O3, (J3.drops (τ' := τ) fun p hp => List.mem_append.mpr (.inr (List.mem_append.mpr (.inr hp)))).push (.dic (.inl e3) (by rw [hkeys]; exact hnd) ?_)⟩ hP
  refine (rpK_mk kvsE hkd hvd).mono ?_
  rw [← ve2]
  exact le3
end
end DL

set_option Elab.async false
set_option linter.all false
set_option maxRecDepth 100000
set_option maxHeartbeats 2000000
/-! DL9: any, all and comprehensions told by functions. -/
namespace DL
open PySem PySem.Spec L2
section
variable {X : Cx} {Tb : List Addr} {δ : Dl} {elt : Expr} {k : Nat} {x : Str} {scope : Scope} {P : D → Prop}
theorem any_items {items : List D} (t : D → Bool) (h : ∀ d ∈ items, ∀ z H code C fp A', Room k A' → wpE (gX X x scope z H code C fp A') Tb elt (some (.d d) :: δ) fun y => y = .bool (t d)) (hP : P (.bool (items.any t))) : AnyAll X Tb k x scope elt δ true P items := by
  refine ⟨fun i => (items.take i).any t = false, rfl, fun i d hd hv z H code C fp A' hr => ?_, fun hv => ?_⟩
  · refine wpE_mono (h d (List.mem_of_getElem? hd) z H code C fp A' hr) fun y hy => ⟨t d, hy, ?_⟩
    cases e : t d with
    | true =>
      rw [if_pos rfl]
      rw [List.any_eq_true.mpr ⟨d, List.mem_of_getElem? hd, e⟩] at hP
      exact hP
    | false =>
      rw [if_neg (by decide)]
      show (items.take (i + 1)).any t = false
      have hv : (items.take i).any t = false := hv
      rw [List.take_add_one, hd, List.any_append, hv]
      show (false || List.any [d] t) = false
      rw [List.any_cons, e]
      rfl
  · have hv : (items.take items.length).any t = false := hv
    rw [List.take_length] at hv
    rw [hv] at hP
    exact hP
theorem all_items {items : List D} (t : D → Bool) (h : ∀ d ∈ items, ∀ z H code C fp A', Room k A' → wpE (gX X x scope z H code C fp A') Tb elt (some (.d d) :: δ) fun y => y = .bool (t d)) (hP : P (.bool (items.all t))) : AnyAll X Tb k x scope elt δ false P items := by
  refine ⟨fun i => (items.take i).all t = true, rfl, fun i d hd hv z H code C fp A' hr => ?_, fun hv => ?_⟩
  · refine wpE_mono (h d (List.mem_of_getElem? hd) z H code C fp A' hr) fun y hy => ⟨t d, hy, ?_⟩
    cases e : t d with
    | false =>
      rw [if_pos rfl]
      have : items.all t = false := by
        rw [Bool.eq_false_iff]
        intro q
        have := List.all_eq_true.mp q d (List.mem_of_getElem? hd)
        rw [e] at this
        cases this
      rw [this] at hP
      exact hP
    | true =>
      rw [if_neg (by decide)]
      show (items.take (i + 1)).all t = true
      have hv : (items.take i).all t = true := hv
      rw [List.take_add_one, hd, List.all_append, hv]
      show (true && List.all [d] t) = true
      rw [List.all_cons, e]
      rfl
  · have hv : (items.take items.length).all t = true := hv
    rw [List.take_length] at hv
    rw [hv] at hP
    exact hP
/-- [elt(x) for x in items] -/
abbrev LcGoal (X : Cx) (Tb : List Addr) (scope : Scope) (elt : Expr) (δ : Dl) (j : Nat) (c : Option Expr) (P : D → Prop) (ds : List D) : Prop := LcG X Tb scope elt δ j c P ds
theorem lc_map {ds : List D} {j : Nat} (g : D → D) (hl : ds.length < sizeLine) (h : ∀ d ∈ ds, ∀ z H C cl fp, wpE (blkX X z H scope C cl fp) Tb elt (δ.set j (some (.d d))) fun y => y = g d) (hP : P (.list (ds.map g))) : LcGoal X Tb scope elt δ j none P ds := by
  refine ⟨hl, fun i acc => acc = (ds.take i).map g, rfl, fun i d acc hd hv z H C cl fp => ?_, fun acc hv => ?_⟩
  · refine wpE_mono (h d (List.mem_of_getElem? hd) z H C cl fp) fun y hy => ?_
    show acc ++ [y] = _
    rw [List.take_add_one, hd, List.map_append, hy, hv]
    rfl
  · have hv : acc = (ds.take ds.length).map g := hv
    rw [List.take_length] at hv
    rw [hv]
    exact hP
theorem lc_filter {ds : List D} {j : Nat} {c : Expr} (t : D → Bool) (g : D → D) (hl : ds.length < sizeLine) (ht : ∀ d ∈ ds, ∀ z H C cl fp, wpT (blkX X z H scope C cl fp) Tb c (δ.set j (some (.d d))) fun k => k = t d)
    (h : ∀ d ∈ ds, t d = true → ∀ z H C cl fp, wpE (blkX X z H scope C cl fp) Tb elt (δ.set j (some (.d d))) fun y => y = g d) (hP : P (.list ((ds.filter t).map g))) : LcGoal X Tb scope elt δ j (some c) P ds := by
  refine ⟨hl, fun i acc => acc = ((ds.take i).filter t).map g, rfl, fun i d acc hd hv => ⟨fun k => k = t d, ht d (List.mem_of_getElem? hd), fun e z H C cl fp => ?_, fun e => ?_⟩, fun acc hv => ?_⟩
  · refine wpE_mono (h d (List.mem_of_getElem? hd) e.symm z H C cl fp) fun y hy => ?_
    show acc ++ [y] = _
    rw [List.take_add_one, hd, List.filter_append, List.map_append, hy, hv]
    show _ = _ ++ List.map g (List.filter t [d])
    rw [List.filter_cons, ← e]
    rfl
  · show acc = _
    rw [List.take_add_one, hd, List.filter_append, List.map_append, hv]
    show _ = _ ++ List.map g (List.filter t [d])
    rw [List.filter_cons, ← e]
    exact (List.append_nil _).symm
  · have hv : acc = ((ds.take ds.length).filter t).map g := hv
    rw [List.take_length] at hv
    rw [hv]
    exact hP
end
/-! the results -/
theorem r_addI {i j : Int} {P : D → Prop} (h : P (.int (i + j))) : addR (.int i) (.int j) P := h
theorem r_subI {i j : Int} {P : D → Prop} (h : P (.int (i - j))) : subR (.int i) (.int j) P := h
theorem r_lt {f : Int → Int → Bool} {i j : Int} {P : D → Prop} (h : P (.bool (f i j))) : ltR f (.int i) (.int j) P := h
theorem r_max {i j : Int} {P : D → Prop} (h : P (.int (max i j))) : maxR [.int i, .int j] P := h
theorem r_min {i j : Int} {P : D → Prop} (h : P (.int (min i j))) : minR [.int i, .int j] P := h
theorem r_eqI {f : Bool → Bool} {i j : Int} {P : D → Prop} (h : P (.bool (f (decide (i = j))))) : eqR f (.int i) (.int j) P := h
theorem r_eqS {f : Bool → Bool} {i j : Str} {P : D → Prop} (h : P (.bool (f (decide (i = j))))) : eqR f (.str i) (.str j) P := h
theorem r_eqB {f : Bool → Bool} {i j : Bool} {P : D → Prop} (h : P (.bool (f (decide (i = j))))) : eqR f (.bool i) (.bool j) P := h
end DL

set_option Elab.async false
set_option linter.all false
set_option maxRecDepth 100000
set_option maxHeartbeats 2000000
/-! DL10: the script, feeds and draws; the law's own frame. -/
namespace DL
open PySem PySem.Spec L2
theorem boot_len' : bootBuiltins "len" = some (.builtin "len") := by decide +kernel
theorem boot_abs' : bootBuiltins "abs" = some (.builtin "abs") := by decide +kernel
theorem lt1000 {n : Nat} (h : n ≤ 1000) : n ≤ sizeLine := Nat.le_trans h (by decide)
theorem ix_nat {n j : Nat} (hj : j < n) : ixN n (j : Int) = some j := by
  unfold ixN
  rw [if_pos (by omega), if_pos (by omega)]
  simp
theorem at_nat {α : Type} {xs : List α} {n : Nat} {x : α} (h : xs[n]? = some x) : atI xs (n : Int) = some x := by
  obtain ⟨hl, _⟩ := List.getElem?_eq_some_iff.mp h
  unfold atI
  rw [ix_nat hl]
  exact h
/-- _law_feed(script, k): a new pair of numbers -/
def spFeed (K : PySem.W.Frag) : Sp := fun vs H Q _ => ∃ (a : Addr) (ns : List Int) (i : Nat), vs = [.ref a, .int (i : Nat)] ∧ SqL K H a (ns.map V.int) ∧ ∀ p x y, H p = none → Q (.ref p) (upd H p (.lst [.int x, .int y]))
abbrev preT : List D → Prop := fun ds => ∃ m : Int, ds = [.int m] ∧ 0 < m ∧ m < 1073741824
abbrev postT : List D → D → Prop := fun ds d => ∃ m z : Int, ds = [.int m] ∧ d = .int z ∧ 0 ≤ z ∧ z < m
section
variable {X : Cx} {Tb : List Addr} {δ : Dl} {eks es : List Expr} {pos pc pT pF py : Pos} {P : D → Prop} {xT xF y : Str} {fT fF : Addr} {fdT fdF : FuncData} {kT kF : Nat} {psT psF : List Str} {ns : List Int}
theorem vis_all {O : List Addr} {H : Hp} : Le (vis O H) H := by
  have e : vis [] H = H := by
    funext a
    rw [vis_out (by simp)]
  have h : Le (vis O H) (vis [] H) := vis_le fun a ha => by cases ha
  rw [e] at h
  exact h
theorem AtO.scr {G : Glo} {B : Hp} {O0 M O : List Addr} {Lk : Lks} {σ : L2.St} {τ : List (V × D)} {H : Hp} {j : Nat} (I : AtO G B O0 M Lk O δ σ τ H) (hj : δ[j]? = some (some (.scr ns))) : ∃ a, σ[j]? = some (some (.ref a)) ∧ SqL G.K H a (ns.map V.int) := by
  obtain ⟨v, e, a, rfl, h⟩ := I.slots j _ hj
  exact ⟨a, e, ex_seq vis_all h⟩
theorem AtO.unhid {G : Glo} {B : Hp} {O0 M O : List Addr} {Lk1 : List (Addr × Obj × HO)} {hs : List (Addr × HO)} {σ : L2.St} {τ : List (V × D)} {H : Hp} {r : Addr × HO} (I : AtO G B O0 M (Lk1, r :: hs) O δ σ τ H) : AtO G B O0 M (Lk1, hs) O δ σ τ H :=
  ⟨I.sub0, I.subM, I.o0, I.new, I.live, I.gr, fun p hp => I.hid p (List.mem_cons_of_mem _ hp), fun p hp => I.hidT p (List.mem_cons_of_mem _ hp), I.feeds, I.tabs, I.tmp, I.len, I.slots, I.sep, I.lck, I.nof, I.inn.less fun p hp => List.mem_cons_of_mem _ hp⟩
/-- len(script) -/
theorem wpE_lenS (j : Nat) (hj : δ[j]? = some (some (.scr ns))) (m_len : X.mg "len" = none) (h : P (.int ns.length)) (hN : X.N[j]? = some y := by rfl) (hg : Gl X "len" := by rfl)
    (hv : Vis X.env.scope y := by first | exact Or.inl rfl | exact Or.inr (Or.inl rfl) | exact Or.inr (Or.inr rfl)) (h1 : (y == ("__debug__" : Str)) = false := by decide) (h2 : (y == ("__classdict__" : Str)) = false := by decide)
    (he : starEach [.Name y py] X.env = (false, eval (.Name y py) X.env) :: starEach [] X.env := by rfl) (hpl : (backTo pos (starEach [] X.env)).any (·.1) = false := by rfl) :
    wpE X Tb (.Call (.Name "len" pF) [.Name y py] [] pos) δ P := fun B O0 M Lk σ τ H I Q q => by
  obtain ⟨O, J⟩ := id I
  obtain ⟨a, e, hS⟩ := J.scr hj
  refine sem_e (pe_callB call_len_seq hg m_len boot_len' (pa_cons (pe_var hN hv h1 h2) pa_nil he) (by decide) (by decide) he hpl) ?_
  refine ⟨.ref a, e, a, _, rfl, .inl hS, ?_⟩
  rw [List.length_map]
  exact q _ _ H (I.pushS fun _ => .int _) h
/-- _law_take(_law_feed(script, k), many) -/
theorem wpE_takeFeed (j : Nat) (FT : FnOk X.prog X.w X.K X.mg X.base CX0 kT fT fdT psT (spD Tb 1 1 preT postT)) (hrT : Room kT X.A) (hmT : X.mg xT = some (.ref fT)) (hkT : PySem.W.keepIn X.K (.ref fT) = true) (hbT : Binds X.K fdT psT [])
    (FF : FnOk X.prog X.w X.K X.mg X.base CX0 kF fF fdF psF (spFeed X.K)) (hrF : Room kF X.A) (hmF : X.mg xF = some (.ref fF)) (hkF : PySem.W.keepIn X.K (.ref fF) = true) (hbF : Binds X.K fdF psF [])
    (hj : δ[j]? = some (some (.scr ns)))
    (h : wpA X Tb eks δ fun ds => ∃ i : Nat, ds = [.int (i : Nat)] ∧ wpA X Tb es δ fun ds => ∃ m : Int, ds = [.int m] ∧ 0 < m ∧ m < 1073741824 ∧ ∀ z, 0 ≤ z → z < m → P (.int z))
    (hN : X.N[j]? = some y := by rfl) (hv : Vis X.env.scope y := by first | exact Or.inl rfl | exact Or.inr (Or.inl rfl) | exact Or.inr (Or.inr rfl)) (h1 : (y == ("__debug__" : Str)) = false := by decide) (h2 : (y == ("__classdict__" : Str)) = false := by decide)
    (hgT : Gl X xT := by rfl) (hgF : Gl X xF := by rfl) (hdT : (xT == ("__debug__" : Str)) = false := by decide) (hdF : (xF == ("__debug__" : Str)) = false := by decide)
    (heF : starEach (.Name y py :: eks) X.env = (false, eval (.Name y py) X.env) :: starEach eks X.env := by rfl) (hplF : (backTo pc (starEach eks X.env)).any (·.1) = false := by rfl)
    (heT : starEach (.Call (.Name xF pF) (.Name y py :: eks) [] pc :: es) X.env = (false, eval (.Call (.Name xF pF) (.Name y py :: eks) [] pc) X.env) :: starEach es X.env := by rfl) (hplT : (backTo pos (starEach es X.env)).any (·.1) = false := by rfl) :
    wpE X Tb (.Call (.Name xT pT) (.Call (.Name xF pF) (.Name y py :: eks) [] pc :: es) [] pos) δ P := fun B O0 M Lk σ τ H I Q q => by
  refine sem_e (pe_call FT hrT hgT hmT hkT hbT .nil (pass0 (X := X)) (pa_cons (pe_call FF hrF hgF hmF hkF hbF .nil (pass0 (X := X)) (pa_cons (pe_var hN hv h1 h2) pa_sem heF) hdF heF hplF) pa_sem heT) hdT heT hplT) ?_
  obtain ⟨O, J⟩ := id I
  obtain ⟨a, e0, hS⟩ := J.scr hj
  refine ⟨.ref a, e0, h B O0 M Lk σ τ H I _ fun ps H1 J1 h1 => ?_⟩
  obtain ⟨i, hds, h2⟩ := h1
  obtain ⟨O1, J1⟩ := J1
  obtain ⟨J1, r1⟩ := J1.popA
  rw [hds] at r1
  obtain ⟨a1, e1, hS1⟩ := J1.scr hj
  have ea : a = a1 := V.ref.inj (Option.some.inj (Option.some.inj (e0.symm.trans e1)))
  subst ea
  have e2 : ps.map (·.1) = [V.int (i : Nat)] := by
    cases hps : ps.map (·.1) with
    | nil => rw [hps] at r1; cases r1
    | cons v r =>
      rw [hps] at r1
      cases r1 with
      | cons rv rr =>
        rw [rv.int']
        cases rr
        rfl
  refine ⟨a, ns, i, ?_, hS1, fun p x z hp => ?_⟩
  · show (.ref a :: ps.map (·.1)) ++ [] = _
    rw [e2]
    rfl
  · obtain ⟨J2, _, _⟩ := J1.hide (ob := .lst [.int x, .int z]) hp
    refine h2 B O0 M _ σ τ _ ⟨_, J2⟩ _ fun ps2 H2 J3 h3 => ?_
    obtain ⟨m, hm, m0, m1, hz⟩ := h3
    obtain ⟨O3, J3⟩ := J3
    obtain ⟨J3, r3⟩ := J3.popA
    obtain ⟨g1, g2, g3, g4⟩ := J3.hid _ List.mem_cons_self
    refine ⟨O3, [p], ps2.map (·.1), ps2.map (·.2), ?_, rfl, (fun f hf => ?_), J3.live, (fun f hf => ?_), J3.tabs, r3, by rw [hm]; rfl, ⟨m, hm, m0, m1⟩, fun v d H' g nf hf rv hp2 => ?_⟩
    · show (.ref p :: ps2.map (·.1)) ++ ([] : List V) = .ref p :: ([] ++ _)
      rw [List.append_nil, List.nil_append]
    · rw [List.mem_singleton.mp hf]; exact g2
    · rw [List.mem_singleton.mp hf]; exact ⟨x, z, g1⟩
    · obtain ⟨m', k, em, rfl, k0, k1⟩ := hp2
      rw [hm] at em
      cases em
      refine q v _ H' ⟨O3, (J3.unhid.grow g hf (fun f hf => ?_) (fun f hf i o ho hs => ?_) (fun f hf r hr e => ?_) nf (fun f hf i o e z => J3.inn.hid i o e p (by rw [← List.mem_singleton.mp hf]; exact z) _ List.mem_cons_self rfl)).push rv⟩ (hz k k0 k1)
      · rw [List.mem_singleton.mp hf]; exact ⟨g2, .inr g3, ⟨x, z, g1⟩⟩
      · rw [List.mem_singleton.mp hf] at hs
        exact absurd hs (g4 i o ho)
      · rw [List.mem_singleton.mp hf] at e
        have := (J1.hid r hr).1
        rw [e, hp] at this
        cases this
end

/-! ### the law's own frame: the script alone -/
def startS (ns : List Int) (N : List Str) : Dl := some (.scr ns) :: List.replicate (N.length - 1) none
def spLaw (K : PySem.W.Frag) (Tb : List Addr) (pre : List Int → Prop) : Sp := fun vs H Q _ => ∃ (a : Addr) (ns : List Int), vs = [.ref a] ∧ SqL K H a (ns.map V.int) ∧ (∀ P ∈ Tb, GxR.TabG H P) ∧ pre ns ∧ ∀ H', Q (.bl true) H'
theorem law_ok {Pg : Program} {w : World} {K : PySem.W.Frag} {mg : Str → Option Value} {base : Heap} {x qual : Str} {st : Stmt} {f c : Addr} {fd : FuncData} {N ps : List Str} {k : Nat} {Tb : List Addr} {pre : List Int → Prop} (F : FunC K x qual st f c fd) (S : FnScope N ps (defScope st)) (hn : ps.length = 1)
    (hbody : ∀ (A : Around) (outer : List Env) (s : Shared) (H : Hp) (E : XK) (ns : List Int), Room k (A.deeper (PyProof.Rows.envOfC qual (defScope st) s.heap.objs.size f (.ref c))) → pre ns →
      wpSs (cxOf CX0 Pg w K mg base N qual (defScope st) f (.ref c) A outer s H E).nox Tb (defBody st) (startS ns N) { nx := fun _ => False, rt := fun d => d = .bool true }) : FnOk Pg w K mg base CX0 (k + 1) f fd ps (spLaw K Tb pre) := by
  obtain ⟨oc, od, kV, doc, pm, an, ct, osl, rfl, lk, hcd⟩ := F.ex
  have hpl : ps.length ≤ N.length := by have := congrArg List.length S.pre; rw [List.length_take] at this; omega
  refine fn_of lk hcd S (fun vs H Q E h => ?_) fun A outer s H vs Q E hr hsp => ?_
  · obtain ⟨a, ns, rfl, _⟩ := h
    exact hn.symm
  · obtain ⟨a, ns, rfl, hS, hT, hp, q⟩ := hsp
    have hb := hbody A outer s H E ns hr hp
    have e0 : vis [] H = H := by
      funext a
      rw [vis_out (by simp)]
    have I : At ⟨K, Tb⟩ H [] [] ([], []) (startS ns N) (L2.start N [.ref a]) [] H := by
      refine ⟨[], fun _ h => h, (fun _ z => nomatch z), (fun _ z => nomatch z), (fun _ z => nomatch z), (fun _ z => nomatch z), Gr.refl _ _ _, (fun _ z => nomatch z), (fun _ z => nomatch z), (fun _ z => nomatch z), hT, (fun _ z => nomatch z), ?_, fun i sl e => ?_, fun i k o o' q e1 e2 e3 e4 => ?_, (fun _ z => nomatch z), fun a od u e => .inl (by rw [e]; exact fun z => nomatch z), .none fun i o e => (by
        exfalso
        cases i with
        | zero => cases e
        | succ i =>
          unfold startS at e
          rw [List.getElem?_cons_succ, List.getElem?_replicate] at e
          split at e <;> cases e)⟩
      · unfold startS L2.start
        simp only [List.length_append, List.length_replicate, List.length_map, List.length_cons, List.length_nil]
        omega
      · cases i with
        | zero =>
          cases e
          exact ⟨.ref a, rfl, a, rfl, by rw [e0]; exact hS⟩
        | succ i =>
          exfalso
          unfold startS at e
          rw [List.getElem?_cons_succ, List.getElem?_replicate] at e
          split at e <;> cases e
      · cases i with
        | zero => cases e1
        | succ i =>
          exfalso
          unfold startS at e1
          rw [List.getElem?_cons_succ, List.getElem?_replicate] at e1
          split at e1 <;> cases e1
    refine ⟨_, pss_sem.nox, semSs_le ⟨fun σ' H' h => ?_, fun v H' h => ?_, fun _ _ h => ?_, fun _ _ h => ?_⟩ (hb H [] [] ([], []) _ [] H I)⟩
    · obtain ⟨_, _, h⟩ := h
      exact h.elim
    · obtain ⟨d, J, h⟩ := h
      have rv := J.rp
      rw [h] at rv
      rw [rv.bool']
      exact q H'
    · obtain ⟨_, _, h⟩ := h
      exact h
    · obtain ⟨_, _, h⟩ := h
      exact h
end DL

set_option Elab.async false
set_option linter.all false
set_option maxRecDepth 100000
set_option maxHeartbeats 2000000
/-! DL11: small displays; steps that the text tells. -/
namespace DL
open PySem PySem.Spec L2
section
variable {X : Cx} {Tb : List Addr} {δ : Dl} {k1 k2 k3 v1 v2 v3 : Expr} {pos : Pos} {P : D → Prop}
theorem wpE_disp1 (h : wpE X Tb k1 δ fun a1 => wpE X Tb v1 δ fun b1 => ∃ x : Key, a1 = kD x ∧ P (.dict [(a1, b1)])) : wpE X Tb (.Dict [some k1] [v1] pos) δ P :=
  wpE_disp (kes := [k1]) rfl (wpE_mono h fun a1 h => wpE_mono h fun b1 h => by
    obtain ⟨x, rfl, h⟩ := h
    exact ⟨by show 1 ≤ 15; decide, ⟨[x], rfl, by simp⟩, h⟩) (h15 := by show 1 ≤ 15; decide)
theorem wpE_disp2 (h : wpE X Tb k1 δ fun a1 => wpE X Tb v1 δ fun b1 => wpE X Tb k2 δ fun a2 => wpE X Tb v2 δ fun b2 => ∃ x y : Key, a1 = kD x ∧ a2 = kD y ∧ x ≠ y ∧ P (.dict [(a1, b1), (a2, b2)])) : wpE X Tb (.Dict [some k1, some k2] [v1, v2] pos) δ P :=
  wpE_disp (kes := [k1, k2]) rfl (wpE_mono h fun a1 h => wpE_mono h fun b1 h => wpE_mono h fun a2 h => wpE_mono h fun b2 h => by
    obtain ⟨x, y, rfl, rfl, n, h⟩ := h
    exact ⟨by show 2 ≤ 15; decide, ⟨[x, y], rfl, by simp [n]⟩, h⟩) (h15 := by show 2 ≤ 15; decide)
theorem r_d1 {a : Str} {Q : Prop} (h : Q) : ∃ x : Key, (.str a : D) = kD x ∧ Q := ⟨.inr a, rfl, h⟩
theorem r_d2 {a c : Str} {Q : Prop} (n : a ≠ c) (h : Q) : ∃ x y : Key, (.str a : D) = kD x ∧ (.str c : D) = kD y ∧ x ≠ y ∧ Q := ⟨.inr a, .inr c, rfl, rfl, fun z => n (Sum.inr.inj z), h⟩
theorem r_small {n : Nat} {Q : Prop} (h : Nat.ble n 1000 = true) (q : Q) : n ≤ sizeLine ∧ Q := ⟨Nat.le_trans (Nat.le_of_ble_eq_true h) (by decide), q⟩
theorem r_lts {n : Nat} {Q : Prop} (h : Nat.ble n 1000 = true) (q : Q) : n < sizeLine ∧ Q := ⟨Nat.lt_of_le_of_lt (Nat.le_of_ble_eq_true h) (by decide), q⟩
theorem r_addL {xs ys : List D} (h : Nat.ble (xs.length + ys.length) 1000 = true) (q : P (.list (xs ++ ys))) : addR (.list xs) (.list ys) P := ⟨Nat.le_trans (Nat.le_of_ble_eq_true h) (by decide), q⟩
end
end DL

set_option Elab.async false
set_option linter.all false
set_option maxRecDepth 100000
set_option maxHeartbeats 2000000
/-! DL12: the end of a row whose defs hold generator expressions. -/
namespace DL
open PySem PySem.Spec L2 PySem.W PyProof.Rows
/-- what the top has left of the tables of its defs' code objects -/
def TabFacts (K : Frag) (h : Heap) (q : Program) : Prop := ∀ (x : Str) (f c P : Addr) (o : Obj) (fd : FuncData) (e : Value) (dd : Option Addr) (vs : Array Value) (sl : Array (Option Value)), ((recsOf q).any fun r => r.name == x) = true →
  nsIn K mainGlobals x = some (some (.ref f)) → K.lookup f = some o → o.data = .func fd → fd.code = .ref c → K.lookup c = some ⟨e, dd, .fields vs, sl⟩ → vs[11]? = some (.ref P) → CodeHd h c P ∧ h.get? P = some { cls := .none, data := .fields #[] }
theorem tab_facts {K : Frag} {h : Heap} {q : Program} {loose : List Str} {mean : ExcName → Option Value} {mg mb : Str → Option Value} (KX : K.In h) (T : Top q loose mean mg mb h) : TabFacts K h q := fun y f c P o1 fd1 e dd vs1 sl hrec k0 k1 k2 k3 k4 k5 => by
  obtain ⟨dL, hm, hn1⟩ := List.any_eq_true.mp hrec
  have hn2 : dL.name = y := beq_iff_eq.mp hn1
  obtain ⟨a', o', fd', c', P', h1, h2, h3, h4, h5, h6⟩ := T.tab dL hm
  rw [hn2, mg_of KX T.g k0] at h1
  cases h1
  have g1 := KX _ _ k1
  rw [g1] at h2
  cases h2
  rw [k2] at h3
  cases h3
  rw [k3] at h4
  cases h4
  have hcd := CodeHd.of h5 h6
  obtain ⟨⟨oc, vc, e1, _, e3, e4⟩, hP⟩ := h6
  have g2 := KX _ _ k4
  rw [g2] at e1
  cases e1
  cases e3
  rw [k5] at e4
  cases e4
  exact ⟨hcd, hP⟩
theorem walk_tabs {l : PySem.W.OpenLaw} {n k : Nat} {q : Program} {loose : List Str} {XP : (Str → Option Value) → Heap → Prop} {YP : World → Heap → Prop} {d : DefRec} {K : Params → Frag} {CX : World → CXT} {x : Str}
    (hn : l.most = some n) (hn2 : n ≤ sizeLine) (hdf : d.params.defaults = []) (hr : Room k callerA) (hY : ∀ (w : World) (h : Heap), YP w h → (K w.params).In h)
    (F : ∀ (w : World) (mg : Str → Option Value) (fa : Addr) (h : Heap), (K w.params).In h → h.Ns mainGlobals mg → mg d.name = some (.ref fa) → TabFacts (K w.params) h q → LamX.LawAtS l w (K w.params) (CX w) k n x mg fa h)
    (hCX : ∀ (w : World) (H : Hp) (s : Shared) (e : Value) (s' : Shared), CX w [] H s (fun _ _ _ => False) e s' → False) :
    WalkO q loose XP YP l.row.toRowW d [] (fun f vs => PySem.call f vs) := by
  refine Att.attach_callB hn hdf fun w s₀ s₁ mg mb fa o pm cd doc a vs ns G Y ho hd hcd hmg hobj hints hlen hbits hg => ?_
  have KX := hY w _ Y
  have tf : TabFacts (K w.params) s₁.heap q := tab_facts KX G.T
  obtain ⟨fd, cs, sp, hT, nT, C, hb, hsp, hF⟩ := F w mg fa _ KX G.T.g hmg tf
  exact LamX.law_callTs KX G.T.g G.T.b G.T.builtins G.T.nolimit hg hT nT C G.T.bmain hobj hints (Nat.le_trans hlen hn2) hr hF hb (fun H hH hS => hsp H a ns hlen hbits hH hS) fun H e s' => hCX w H s₁ e s'
theorem tabG0 {H : Hp} {P : Addr} (h : H P = some (.tbl #[])) : GxR.TabG H P := ⟨#[], h, trivial⟩
theorem tabX {base : Heap} {mg : Str → Option Value} {c P : Addr} (t : LamX.TabB base mg c P) : GxR.TabB base mg c P := ⟨t.code, t.bm, t.gP⟩
/-- a def as the top has left it -/
structure Left (K : Frag) (x : Str) (st : Stmt) (f c : Addr) (fd : FuncData) : Prop where
  at_ : nsIn K mainGlobals x = some (some (.ref f))
  F : FunC K x x st f c fd
theorem left_mk {K : Frag} {x : Str} {st : Stmt} {f c : Addr} {od an : Option Addr} {sl : Array (Option Value)} {oc kV dc pm ct : Value}
    (a : nsIn K mainGlobals x = some (some (.ref f))) (l : K.lookup f = some ⟨oc, od, .func (fnOf x x (defArgs st) (defBody st) (defScope st) .none kV dc pm an (.ref c) ct), sl⟩) (hc : codeIn K (.ref c) x = true) (k : keepIn K (.ref f) = true) :
    Left K x st f c (fnOf x x (defArgs st) (defBody st) (defScope st) .none kV dc pm an (.ref c) ct) :=
  ⟨a, ⟨_, _, _, _, _, _, _, _, rfl, l, hc⟩, k⟩
end DL

set_option Elab.async false
set_option linter.all false
set_option maxRecDepth 100000
set_option maxHeartbeats 2000000
/-! DL13: walks over dicts. -/
namespace DL
open PySem PySem.Spec L2
section
variable {G : Glo} {B : Hp} {O0 M O : List Addr} {L1 : List (Addr × Obj × HO)} {hs : List (Addr × HO)} {δ : Dl} {σ : L2.St} {τ : List (V × D)} {H : Hp} {a : Addr} {od : Obj} {kvs : List (Key × V)}
theorem le_lock (h : H a = some (.dK kvs)) : Le (vis O H) (vis O (upd H a (.frz od (.dK kvs)))) := by
  by_cases ha : a ∈ O
  · rw [le_mut ha]
    exact Le.refl _
  have ne : ∀ {b o}, vis O H b = some o → b ≠ a → vis O (upd H a (.frz od (.dK kvs))) b = some o := fun e n => by
    obtain ⟨hb, e⟩ := vis_some e
    rw [vis_out hb, upd_ne n]
    exact e
  have at_ : vis O (upd H a (.frz od (.dK kvs))) a = some (.frz od (.dK kvs)) := by rw [vis_out ha, upd_same]
  have old : vis O H a = some (.dK kvs) := by rw [vis_out ha]; exact h
  refine ⟨fun b xs e => ne e fun z => ?_, fun b xs e => ne e fun z => ?_, fun b ks e => ?_, fun b xs e => ?_, fun b C dx fs e => ne e fun z => ?_⟩
  · rw [z, old] at e; cases e
  · rw [z, old] at e; cases e
  · by_cases z : b = a
    · rw [z] at e ⊢
      rcases e with e | ⟨o, e⟩
      · rw [old] at e; cases e; exact .inr ⟨_, at_⟩
      · rw [old] at e; cases e
    · exact e.elim (fun e => .inl (ne e z)) fun ⟨o, e⟩ => .inr ⟨o, ne e z⟩
  · by_cases z : b = a
    · rw [z] at e
      rcases e with e | ⟨o, e⟩ <;> rw [old] at e <;> cases e
    · exact e.elim (fun e => .inl (ne e z)) fun ⟨o, e⟩ => .inr ⟨o, ne e z⟩
  · rw [z, old] at e; cases e
theorem le_unlock (h : H a = some (.frz od (.dK kvs))) : Le (vis O H) (vis O (upd H a (.dK kvs))) := by
  by_cases ha : a ∈ O
  · rw [le_mut ha]
    exact Le.refl _
  have ne : ∀ {b o}, vis O H b = some o → b ≠ a → vis O (upd H a (.dK kvs)) b = some o := fun e n => by
    obtain ⟨hb, e⟩ := vis_some e
    rw [vis_out hb, upd_ne n]
    exact e
  have at_ : vis O (upd H a (.dK kvs)) a = some (.dK kvs) := by rw [vis_out ha, upd_same]
  have old : vis O H a = some (.frz od (.dK kvs)) := by rw [vis_out ha]; exact h
  refine ⟨fun b xs e => ne e fun z => ?_, fun b xs e => ne e fun z => ?_, fun b ks e => ?_, fun b xs e => ?_, fun b C dx fs e => ne e fun z => ?_⟩
  · rw [z, old] at e; cases e
  · rw [z, old] at e; cases e
  · by_cases z : b = a
    · rw [z] at e ⊢
      rcases e with e | ⟨o, e⟩
      · rw [old] at e; cases e
      · rw [old] at e; cases e; exact .inl at_
    · exact e.elim (fun e => .inl (ne e z)) fun ⟨o, e⟩ => .inr ⟨o, ne e z⟩
  · by_cases z : b = a
    · rw [z] at e
      rcases e with e | ⟨o, e⟩ <;> rw [old] at e <;> cases e
    · exact e.elim (fun e => .inl (ne e z)) fun ⟨o, e⟩ => .inr ⟨o, ne e z⟩
  · rw [z, old] at e; cases e
theorem slots_le {H' : Hp} {v : V} {sl : Sl} (l : Le (vis O H) (vis O H')) (k : ∀ p ∈ O, H' p = H p) (h : SlOk G B M O H v sl) : SlOk G B M O H' v sl := by
  cases sl with
  | d d => exact Rp.mono l h
  | scr ns => obtain ⟨p, e, h⟩ := h; exact ⟨p, e, ex_seq l h⟩
  | own o =>
    obtain ⟨p, e, hp, hb, hb2, h⟩ := h
    exact ⟨p, e, hp, hb, hb2, h.le l (fun _ q => by rw [k p hp]; exact q) (fun _ q => by rw [k p hp]; exact q) fun x hx xs q => by rw [k x (h.innO hx)]; exact q⟩
/-- a dict is locked -/
theorem AtO.lock (I : AtO G B O0 M (L1, hs) O δ σ τ H) (ha : a ∉ O) (h : H a = some (.dK kvs)) :
    AtO G B O0 M ((a, od, .dK kvs) :: L1, hs) O δ σ τ (upd H a (.frz od (.dK kvs))) ∧ (∀ o, B a = some o → o = .dK kvs) ∧ a ∉ L1.map (·.1) := by
  have l : Le (vis O H) (vis O (upd H a (.frz od (.dK kvs)))) := le_lock h
  have nl : ∀ p ∈ L1, p.1 ≠ a := fun p hp z => by
    have q := (I.lck p hp).2
    rw [z, h] at q
    cases q
  have kO : ∀ p ∈ O, upd H a (.frz od (.dK kvs)) p = H p := fun p hp => upd_ne fun z => ha (by rw [← z]; exact hp)
  have hM : a ∉ M := fun z => ha (I.sub0 _ (I.subM _ z))
  have hB : ∀ o, B a = some o → o = .dK kvs := fun o e => by
    rcases I.gr a o hM e with q | ⟨_, _, _, q, _⟩ | ⟨_, _, q⟩ <;> rw [h] at q <;> cases q
    rfl
  refine ⟨⟨I.sub0, I.subM, I.o0, I.new, fun p hp => by rw [kO p hp]; exact I.live p hp, fun b o hb e => ?_, fun p hp => ?_, I.hidT, fun f hf => ?_, fun P hP => ?_, fun p hp => (I.tmp p hp).mono l, I.len, fun i sl e => ?_, I.sep, fun p hp => ?_, fun b o u e => ?_, I.inn⟩, hB, fun z => ?_⟩
  · by_cases z : b = a
    · rw [z] at e ⊢
      rw [hB o e]
      exact .inr (.inr ⟨List.mem_cons_self, od, upd_same⟩)
    · rcases I.gr b o hb e with q | ⟨ps, ps', e1, q, t⟩ | ⟨q1, o', q⟩
      · exact .inl (by rw [upd_ne z]; exact q)
      · exact .inr (.inl ⟨ps, ps', e1, by rw [upd_ne z]; exact q, t⟩)
      · exact .inr (.inr ⟨List.mem_cons_of_mem _ q1, o', by rw [upd_ne z]; exact q⟩)
  · obtain ⟨h1, h2, h3, h4⟩ := I.hid p hp
    exact ⟨by rw [kO _ h2]; exact h1, h2, h3, h4⟩
  · obtain ⟨x, y, q⟩ := I.feeds f hf
    exact ⟨x, y, by rw [kO _ (I.sub0 _ (I.subM _ hf))]; exact q⟩
  · obtain ⟨ps, q, t⟩ := I.tabs P hP
    exact ⟨ps, by rw [upd_ne fun z => by rw [z, h] at q; cases q]; exact q, t⟩
  · obtain ⟨v, e1, q⟩ := I.slots i sl e
    exact ⟨v, e1, slots_le l kO q⟩
  · rcases List.mem_cons.mp hp with e | hp
    · rw [e]
      exact ⟨ha, upd_same⟩
    · exact ⟨(I.lck p hp).1, by rw [upd_ne (nl p hp)]; exact (I.lck p hp).2⟩
  · by_cases z : b = a
    · rw [z]
      exact .inr List.mem_cons_self
    · rw [upd_ne z] at e
      exact (I.nof b o u e).imp id (List.mem_cons_of_mem _)
  · obtain ⟨p, hp, e⟩ := List.mem_map.mp z
    exact nl p hp e
theorem gr_unlock (g : Gr M (((a, od, .dK kvs) :: L1).map (·.1)) B H) (hB : ∀ o, B a = some o → o = .dK kvs) : Gr M (L1.map (·.1)) B (upd H a (.dK kvs)) := fun b o hb e => by
  by_cases z : b = a
  · rw [z] at e ⊢
    rw [hB o e]
    exact .inl upd_same
  · rcases g b o hb e with q | ⟨ps, ps', e1, q, t⟩ | ⟨q1, o', q⟩
    · exact .inl (by rw [upd_ne z]; exact q)
    · exact .inr (.inl ⟨ps, ps', e1, by rw [upd_ne z]; exact q, t⟩)
    · exact .inr (.inr ⟨(List.mem_cons.mp q1).resolve_left z, o', by rw [upd_ne z]; exact q⟩)
theorem nof_unlock (n : ∀ b o u, H b = some (.frz o u) → B b ≠ none ∨ b ∈ ((a, od, HO.dK kvs) :: L1).map (·.1)) : ∀ b o u, upd H a (.dK kvs) b = some (.frz o u) → B b ≠ none ∨ b ∈ L1.map (·.1) := fun b o u e => by
  by_cases z : b = a
  · rw [z, upd_same] at e
    cases e
  · rw [upd_ne z] at e
    exact (n b o u e).imp id fun q => (List.mem_cons.mp q).resolve_left z
theorem AtO.unlock (I : AtO G B O0 M ((a, od, .dK kvs) :: L1, hs) O δ σ τ H) (hB : ∀ o, B a = some o → o = .dK kvs) (hn : a ∉ L1.map (·.1)) : AtO G B O0 M (L1, hs) O δ σ τ (upd H a (.dK kvs)) := by
  obtain ⟨ha, h⟩ := I.lck _ List.mem_cons_self
  have ha : a ∉ O := ha
  have h : H a = some (.frz od (.dK kvs)) := h
  have l : Le (vis O H) (vis O (upd H a (.dK kvs))) := le_unlock h
  have kO : ∀ p ∈ O, upd H a (.dK kvs) p = H p := fun p hp => upd_ne fun z => ha (by rw [← z]; exact hp)
  refine ⟨I.sub0, I.subM, I.o0, I.new, fun p hp => by rw [kO p hp]; exact I.live p hp, gr_unlock I.gr hB, fun p hp => ?_, I.hidT, fun f hf => ?_, fun P hP => ?_, fun p hp => (I.tmp p hp).mono l, I.len, fun i sl e => ?_, I.sep, fun p hp => ?_, nof_unlock I.nof, I.inn⟩
  · obtain ⟨h1, h2, h3, h4⟩ := I.hid p hp
    exact ⟨by rw [kO _ h2]; exact h1, h2, h3, h4⟩
  · obtain ⟨x, y, q⟩ := I.feeds f hf
    exact ⟨x, y, by rw [kO _ (I.sub0 _ (I.subM _ hf))]; exact q⟩
  · obtain ⟨ps, q, t⟩ := I.tabs P hP
    exact ⟨ps, by rw [upd_ne fun z => by rw [z, h] at q; cases q]; exact q, t⟩
  · obtain ⟨v, e1, q⟩ := I.slots i sl e
    exact ⟨v, e1, slots_le l kO q⟩
  · obtain ⟨h1, h2⟩ := I.lck p (List.mem_cons_of_mem _ hp)
    exact ⟨h1, by rw [upd_ne fun z => hn (List.mem_map.mpr ⟨p, hp, z⟩)]; exact h2⟩
theorem Ret.unlock {v : V} {d : D} (I : Ret G B O0 M ((a, od, .dK kvs) :: L1, hs) v H d) (hB : ∀ o, B a = some o → o = .dK kvs) (hn : a ∉ L1.map (·.1)) (hM : ∀ f ∈ M, f ∈ O0) : H a = some (.frz od (.dK kvs)) ∧ Ret G B O0 M (L1, hs) v (upd H a (.dK kvs)) d := by
  obtain ⟨ha, h⟩ := I.lck _ List.mem_cons_self
  have h : H a = some (.frz od (.dK kvs)) := h
  refine ⟨h, gr_unlock I.gr hB, fun f hf => ?_, I.rp.mono (le_unlock h), fun p hp => ?_, nof_unlock I.nof⟩
  · obtain ⟨x, y, q⟩ := I.feeds f hf
    exact ⟨x, y, by rw [upd_ne fun z => ha (by rw [← z]; exact hM f hf)]; exact q⟩
  · obtain ⟨h1, h2⟩ := I.lck p (List.mem_cons_of_mem _ hp)
    exact ⟨h1, by rw [upd_ne fun z => hn (List.mem_map.mpr ⟨p, hp, z⟩)]; exact h2⟩
theorem RpK.key {H : Hp} : ∀ {kvs : List (Key × V)} {ks : List (D × D)} {i : Nat} {k : Key} {v : V}, RpK H kvs ks → kvs[i]? = some (k, v) → (ks.map (·.1))[i]? = some (kD k)
  | _, _, 0, _, _, .cons _ _, e => by cases e; rfl
  | _, _, i + 1, _, _, .cons _ r, e => RpK.key (i := i) r e
  | _, _, _, _, _, .nil, e => by simp at e
theorem rp_key {H : Hp} (k : Key) : Rp H (kV k) (kD k) := by
  cases k with
  | inl i => exact .int i
  | inr x => exact .str x
/-- a locked dict stays as it is -/
theorem AtO.stays (I : AtO G B O0 M (L1, hs) O δ σ τ H) (ha : a ∉ O) (h : H a = some (.frz od (.dK kvs))) : (a, od, .dK kvs) ∈ L1 ∨ (B a = some (.frz od (.dK kvs)) ∧ a ∉ M ∧ a ∉ L1.map (·.1)) := by
  have hM : a ∉ M := fun z => ha (I.sub0 _ (I.subM _ z))
  by_cases hm : a ∈ L1.map (·.1)
  · obtain ⟨p, hp, e1⟩ := List.mem_map.mp hm
    have e2 := (I.lck p hp).2
    rw [e1, h] at e2
    obtain ⟨p1, p2, p3⟩ := p
    cases e2
    cases e1
    exact .inl hp
  · have q := (I.nof a od _ h).resolve_right hm
    cases e : B a with
    | none => exact absurd e q
    | some o =>
      rcases I.gr a o hM e with q | ⟨_, _, _, q, _⟩ | ⟨q1, _, _⟩
      · rw [h] at q
        cases q
        exact .inr ⟨rfl, hM, hm⟩
      · rw [h] at q; cases q
      · exact absurd q1 hm
theorem AtO.kept (I : AtO G B O0 M (L1, hs) O δ σ τ H) (h : (a, od, .dK kvs) ∈ L1 ∨ (B a = some (.frz od (.dK kvs)) ∧ a ∉ M ∧ a ∉ L1.map (·.1))) : H a = some (.frz od (.dK kvs)) := by
  rcases h with hp | ⟨h, hM, hm⟩
  · exact (I.lck _ hp).2
  · rcases I.gr a _ hM h with q | ⟨_, _, e, _⟩ | ⟨q, _⟩
    · exact q
    · cases e
    · exact absurd q hm
end
section
variable {X : Cx} {Tb : List Addr} {δ : Dl} {tg : Expr} {pos px : Pos} {x : Str} {body : List Stmt} {R : Rs} {ks : List (D × D)} {B : Hp} {O0 M : List Addr} {Lk : Lks} {σ : L2.St} {τ : List (V × D)} {H : Hp} {a : Addr} {od : Obj} {kvs : List (Key × V)}
theorem keys_loop {E : Ends} {i : Nat} (I : At (GX X Tb) B O0 M Lk δ σ τ H) (hσ : σ[i]? = some (some (.ref a))) (hlen : kvs.length = ks.length) (hkey : ∀ (n : Nat) (k : Key) (v : V), kvs[n]? = some (k, v) → (ks.map (·.1))[n]? = some (kD k))
    (st : ∀ δ' σ' H', At (GX X Tb) B O0 M Lk δ' σ' τ H' → H' a = some (.frz od (.dK kvs)))
    (h : ∃ Iv : Nat → Dl → Prop, Iv 0 δ ∧ (∀ n k δ', (ks.map (·.1))[n]? = some k → Iv n δ' → wpG X Tb tg k δ' fun δ2 => wpSs X Tb body δ2 ⟨Iv (n + 1), R.rt, R.nx, Iv (n + 1)⟩) ∧ ∀ δ', Iv ks.length δ' → R.nx δ')
    (nx : ∀ σ' H', (∃ δ', At (GX X Tb) B O0 M Lk δ' σ' τ H' ∧ R.nx δ') → E.nx σ' H') (rt : ∀ v H', (∃ d, Ret (GX X Tb) B O0 M Lk v H' d ∧ R.rt d) → E.rt v H') :
    tFor (iKeys (tVar i)) (semG X tg) (semSs X body) E σ H := by
  obtain ⟨Iv, h0, hstep, hend⟩ := h
  refine ⟨.ref a, hσ, a, od, rfl, .inl ⟨kvs, st _ _ _ I, ?_⟩⟩
  refine ⟨fun n m σ H => m = ks.length - n ∧ n ≤ ks.length ∧ ∃ δ', At (GX X Tb) B O0 M Lk δ' σ τ H ∧ Iv n δ', ⟨_, rfl, Nat.zero_le _, δ, I, h0⟩, fun n m σ H ⟨em, hn, δ', I2, hv⟩ => ?_⟩
  have hz := st _ _ _ I2
  by_cases hlt : n < ks.length
  · refine .inr ⟨⟨hz, by omega⟩, fun σ' H' => ∃ δ', At (GX X Tb) B O0 M Lk δ' σ' τ H' ∧ Iv (n + 1) δ', fun σ' H' ⟨δ3, q1, q2⟩ => ⟨ks.length - (n + 1), by omega, rfl, hlt, δ3, q1, q2⟩, fun y H' hy => ?_⟩
    obtain ⟨rfl, k, v, hkv, rfl⟩ := hy
    refine hstep n (kD k) δ' (hkey n k v hkv) hv B O0 M Lk σ τ H' (kV k) (I2.pushS fun _ => rp_key k) _ (fun δ2 σ2 H2 I4 q4 => ?_)
    have q5 := q4 B O0 M Lk σ2 τ H2 I4
    refine semSs_le ?_ q5
    exact ⟨fun _ _ q => q, fun _ _ q => rt _ _ q, fun _ _ q => nx _ _ q, fun _ _ q => q⟩
  · have e : n = ks.length := by omega
    subst e
    exact .inl ⟨⟨hz, by omega⟩, nx _ _ ⟨δ', I2, hend δ' hv⟩⟩
theorem isM_map {α : Type} (f : α → Str) (g : α → D) (xs : List α) : isM (xs.map fun k => (PyData.str (f k), g k)) = false := by cases xs <;> rfl
/-- for k in d: .., d a name (slot i) -/
theorem wpS_forD (i : Nat) (hd : δ[i]? = some (some (.d (.dict ks))))
    (h : ∃ Iv : Nat → Dl → Prop, Iv 0 δ ∧ (∀ n k δ', (ks.map (·.1))[n]? = some k → Iv n δ' → wpG X Tb tg k δ' fun δ2 => wpSs X Tb body δ2 ⟨Iv (n + 1), R.rt, R.nx, Iv (n + 1)⟩) ∧ ∀ δ', Iv ks.length δ' → R.nx δ')
    (hp : PassesOwn (model X.prog X.w) X.A X.env X.xe) (hc : X.calm = true) (hN : X.N[i]? = some x := by rfl) (hv : Vis X.env.scope x := by first | exact Or.inl rfl | exact Or.inr (Or.inl rfl) | exact Or.inr (Or.inr rfl)) (h1 : (x == ("__debug__" : Str)) = false := by decide) (h2 : (x == ("__classdict__" : Str)) = false := by decide)
    (hs : ∀ v, foldedSetIterable (.Name x px) X.env v = pure v := by intro _; rfl) (hm : isM ks = false := by first | rfl | exact isM_map _ _ _) : wpS X Tb (.For tg (.Name x px) body [] pos) δ R := fun B O0 M Lk σ τ H I => by
  obtain ⟨L1, hs'⟩ := Lk
  obtain ⟨O, J⟩ := id I
  obtain ⟨v, hσ, rv⟩ := J.slot hd
  cases rv with
  | ins _ _ _ => rw [isM_ins] at hm; cases hm
  | dic ha nd rk =>
    rename_i a kvs
    have hlen := rk.length
    have hkey : ∀ (n : Nat) (k : Key) (v : V), kvs[n]? = some (k, v) → (ks.map (·.1))[n]? = some (kD k) := fun n k v e => rk.key e
    rcases ha with ha | ⟨od, ha⟩
    · obtain ⟨hO, ha⟩ := vis_some ha
      refine sem_s (ps_lock (ps_for hp hc (pi_keys (pe_var hN hv h1 h2)) pg_sem pss_sem hs)) ⟨a, .dK kvs, ha, trivial, fun od => ?_⟩
      obtain ⟨J2, hB, hnL⟩ := J.lock (od := od) hO ha
      refine keys_loop (R := R) ⟨O, J2⟩ hσ hlen hkey (fun δ' σ' H' ⟨O', K⟩ => (K.lck _ List.mem_cons_self).2) h (fun σ' H' ⟨δ', ⟨O', K⟩, q⟩ => ?_) fun v H' ⟨d, K, q⟩ => ?_
      · exact ⟨(K.lck _ List.mem_cons_self).2, δ', ⟨O', K.unlock hB hnL⟩, q⟩
      · obtain ⟨e, K2⟩ := K.unlock hB hnL J.subM
        exact ⟨e, d, K2, q⟩
    · obtain ⟨hO, ha⟩ := vis_some ha
      have hst := J.stays hO ha
      refine sem_s (ps_for hp hc (pi_keys (pe_var hN hv h1 h2)) pg_sem pss_sem hs) ?_
      exact keys_loop (R := R) I hσ hlen hkey (fun δ' σ' H' ⟨O', K⟩ => K.kept hst) h (fun σ' H' q => q) fun v H' q => q
end
end DL

set_option Elab.async false
set_option linter.all false
set_option maxRecDepth 100000
set_option maxHeartbeats 2000000
/-! DL14: the law's own frame, its surroundings known (no repr under way, sys.modules not tracked). -/
namespace DL
open PySem PySem.Spec L2 PySem.W PyProof.Rows
/-- what is tracked when the law is entered -/
def h0 (K : Frag) (a : Addr) (ob : Obj) (xs : List V) (Ts : List Addr) : Hp := fun b => if b ∈ Ts then some (.tbl #[]) else if b = a ∧ K.lookup a = none then some (.frz ob (.lst xs)) else none
section
variable {P : Program} {w : World} {K : Frag} {mg mb : Str → Option Value} {st : Stmt} {fa c a : Addr} {fd : FuncData} {N : List Str} {x : Str} {cs : List (Addr × Addr)} {s₁ : Shared} {vs : List Value} {ns : List Int} {k : Nat}
theorem law_run (KX : K.In s₁.heap) (hns : s₁.heap.Ns mainGlobals mg) (hb : s₁.heap.Ns builtinsNs mb) (hbb : ∀ x : Str, x ≠ "__name__" → mb x = bootBuiltins x) (hlim : s₁.heap.NoLimit) (hg : s₁.gens = #[])
    (hT : ∀ p ∈ cs, s₁.heap.get? p.2 = some { cls := .none, data := .fields #[] }) (nT : ∀ p ∈ cs, K.lookup p.2 = none) (C : ∀ p ∈ cs, CodeHd s₁.heap p.1 p.2)
    (hbm : ∃ (bm : Addr) (ob : Obj), mg "__builtins__" = some (.ref bm) ∧ bm ≠ builtinsNs ∧ s₁.heap.get? bm = some ob ∧ ob.cls = .type "module" ∧ ob.dict = some builtinsNs ∧ ob.data = .plain)
    (ha : s₁.heap.get? a = some { cls := .type "list", data := .seq vs.toArray }) (hi : IntsAre vs ns) (hl : ns.length ≤ sizeLine) (hr : Room (k + 1) callerA) (F : FunC K x x st fa c fd) (S : FnScope N ["script"] (defScope st)) (hbind : ∀ (s : Shared) (u : Value), BindsTo s fd ⟨[u], []⟩ [("script", u)])
    (sysM : ∃ o, s₁.heap.get? sysModules = some o ∧ ∀ ws n, o.data ≠ .seq ws n) (sysT : sysModules ∉ cs.map (·.2))
    (hbody : ∀ (base : Heap) (H : Hp) (E : XK), K.In base → base.Ns mainGlobals mg → (∀ p ∈ cs, GxR.TabB base mg p.1 p.2) → Room k (callerA.deeper (envOfC x (defScope st) s₁.heap.objs.size fa (.ref c))) → H sysModules = none → s₁.heap.get? sysModules ≠ none →
      wpSs (cxOf CX0 P w K mg base N x (defScope st) fa (.ref c) callerA [] s₁ H E).nox (cs.map (·.2)) (defBody st) (startS ns N) { nx := fun _ => False, rt := fun d => d = .bool true }) :
    codeAny (model P w) callerA (.call (.ref fa) ⟨[.ref a], []⟩) (fun r s' => r = .ok (.ret (.bool true)) ∧ OldK s₁.heap s'.heap ∧ s'.os = s₁.os ∧ AllBare s'.gens) s₁ := by
  have rv := vals_ints hi
  obtain ⟨H, hH⟩ : ∃ H, H = h0 K a { cls := .type "list", data := .seq vs.toArray } (ns.map V.int) (cs.map (·.2)) := ⟨_, rfl⟩
  have isT : ∀ b, b ∈ cs.map (·.2) → s₁.heap.get? b = some { cls := .none, data := .fields #[] } ∧ K.lookup b = none := fun b hb => by
    obtain ⟨p, hp, rfl⟩ := List.mem_map.mp hb
    exact ⟨hT p hp, nT p hp⟩
  have aT : a ∉ cs.map (·.2) := fun z => by
    have q := (isT a z).1
    rw [ha] at q
    have : (Data.seq vs.toArray _) = Data.fields #[] := congrArg Obj.data (Option.some.inj q)
    cases this
  have cases3 : ∀ b o, H b = some o → (b ∈ cs.map (·.2) ∧ o = .tbl #[]) ∨ (b = a ∧ K.lookup a = none ∧ o = .frz { cls := .type "list", data := .seq vs.toArray } (.lst (ns.map V.int))) := fun b o e => by
    rw [hH] at e
    unfold h0 at e
    split at e
    · cases e
      exact .inl ⟨by assumption, rfl⟩
    · split at e
      · rename_i q
        cases e
        exact .inr ⟨q.1, q.2, rfl⟩
      · cases e
  have tbl : ∀ b, b ∈ cs.map (·.2) → H b = some (.tbl #[]) := fun b hb => by
    rw [hH]
    unfold h0
    rw [if_pos hb]
  -- what is not tracked
  have free : ∀ {b o}, s₁.heap.get? b = some o → (∀ ws n, o.data ≠ .seq ws n) → o.data ≠ .fields #[] → H b = none := fun {b o} e h1 h2 => by
    cases q : H b with
    | none => rfl
    | some u =>
      rcases cases3 b u q with ⟨hb, _⟩ | ⟨rfl, _, _⟩
      · rw [(isT b hb).1] at e
        cases e
        exact absurd rfl h2
      · rw [ha] at e
        cases e
        exact absurd rfl (h1 _ _)
  have freeD : ∀ {b o es ep}, s₁.heap.get? b = some o → o.data = .dict es ep → H b = none := fun e d => free e (fun _ _ z => by rw [d] at z; cases z) (fun z => by rw [d] at z; cases z)
  have freeK : ∀ {b o}, K.lookup b = some o → H b = none := fun {b o} e => by
    cases q : H b with
    | none => rfl
    | some u =>
      rcases cases3 b u q with ⟨hb, _⟩ | ⟨rfl, n, _⟩
      · rw [(isT b hb).2] at e; cases e
      · rw [n] at e; cases e
  have hok : HOk P w H s₁.heap := fun b o e => by
    rcases cases3 b o e with ⟨hb, rfl⟩ | ⟨rfl, _, rfl⟩
    · exact (isT b hb).1
    · exact ⟨ha, by rw [List.length_map]; exact hl, vs, _, rv, ha⟩
  have ns_ : ∀ {b : Addr} {m : Str → Option Value}, s₁.heap.Ns b m → (hidT s₁.heap H).Ns b m := fun ⟨o, es, ep, e, d, r⟩ => ⟨o, es, ep, hidT_get e (freeD e d), d, r⟩
  have hKb : K.In (hidT s₁.heap H) := fun b o e => hidT_get (KX b o e) (freeK e)
  have hM : L2.Mod K mg (hidT s₁.heap H) := ⟨hKb, ns_ hns, ⟨mb, ns_ hb, hbb⟩, let ⟨mc, h1, h2⟩ := hlim; ⟨mc, ns_ h1, h2⟩⟩
  have TB : ∀ p ∈ cs, GxR.TabB (hidT s₁.heap H) mg p.1 p.2 := fun p hp => by
    have gT : mainGlobals ≠ p.2 := fun z => by
      obtain ⟨o, es, ep, e, d, _⟩ := hns
      rw [z, hT p hp] at e
      cases e
      cases d
    obtain ⟨o, us, file, tf, flags, tg, inF, text, tt, e1, r1, r2, r3, r⟩ := C p hp
    obtain ⟨bm, ob, b1, b2, b3, b4, b5, b6⟩ := hbm
    have gB : bm ≠ mainGlobals := fun z => by
      obtain ⟨o, es, ep, e, d, _⟩ := hns
      rw [z, e] at b3
      cases b3
      rw [d] at b6
      cases b6
    have tB : bm ≠ p.2 := fun z => by
      rw [z, hT p hp] at b3
      cases b3
      cases b6
    refine ⟨⟨o, us, file, tf, flags, tg, inF, text, tt, hidT_get e1 (free e1 (fun _ _ z => by rw [r2] at z; cases z) fun z => ?_), r1, r2, r3, r⟩, ⟨bm, ob, b1, b2, gB, tB, hidT_get b3 (free b3 (fun _ _ z => by rw [b6] at z; cases z) fun z => by rw [b6] at z; cases z), b4, b5, b6⟩, gT⟩
    rw [r2] at z
    cases z
    simp at r3
  have hS : SqL K H a (ns.map V.int) := by
    cases hk : K.lookup a with
    | some o =>
      have e := KX a o hk
      rw [ha] at e
      cases e
      exact .inr ⟨_, vs.toArray, _, hk, rfl, rfl, rfl, by rw [List.size_toArray, hi.length]; exact hl, by simpa using rv⟩
    | none =>
      refine .inl (.inr ⟨{ cls := .type "list", data := .seq vs.toArray }, ?_⟩)
      rw [hH]
      unfold h0
      rw [if_neg aT, if_pos ⟨rfl, hk⟩]
  have hsys : H sysModules = none := by
    obtain ⟨o, e, h⟩ := sysM
    cases q : H sysModules with
    | none => rfl
    | some u =>
      rcases cases3 _ u q with ⟨hb, _⟩ | ⟨z, _, _⟩
      · exact absurd hb sysT
      · rw [z, ha] at e
        cases e
        exact absurd rfl (h _ _)
  have e0 : Env0 P w K mg (hidT s₁.heap H) callerA [] s₁ H := ⟨rfl, hM, fun b o e => of_hidT e, Nat.le_of_eq (hidT_size _ _), trivial, (fun _ z => nomatch z), hok, .of_eq hg⟩
  -- the call
  obtain ⟨oc, od, kV, doc, pm, an, ct, osl, rfl, lk, hcd⟩ := F.ex
  have hr2 : Room k (callerA.deeper (envOfC x (defScope st) s₁.heap.objs.size fa (.ref c))) := hr.deeper _
  have hkind : ∀ y ∈ [(("script" : Str), Value.ref a)], (defScope st).names.lookup y.1 = some .local ∨ ((defScope st).names.lookup y.1 = some .cell ∧ ((cellsFrom (s₁.heap.objs.size + 1) (defScope st).names []).lookup y.1).isSome = true) := fun y hy => by
    rw [List.mem_singleton.mp hy]
    rcases S.par "script" List.mem_cons_self with q | q
    · exact .inl q
    · exact .inr ⟨q, cellsFrom_some _ _ _ (.inl q)⟩
  refine codeAny_call_function hr.depth (KX _ _ lk) rfl S.co S.gen rfl (codeRec_of KX hcd) (hbind _ _ _ _ _ _ ?_)
  refine wpAny_newFunctionEnv_cells S.kind hkind fun env he s1 X1 => ?_
  subst he
  refine ⟨hlim.keeps X1.toInCall.keep, codeAny_func ?_⟩
  have I : Inv (cxOf CX0 P w K mg (hidT s₁.heap H) N x (defScope st) fa (.ref c) callerA [] s₁ H fun _ _ _ => False) [] (L2.start N [.ref a]) H s1 := inv_start (ps := ["script"]) (us := [.ref a]) S hr.hd e0 rfl (.cons rfl .nil) X1
  have e00 : vis [] H = H := by
    funext b
    rw [vis_out (by simp)]
  have lenN : 1 ≤ N.length := by have := congrArg List.length S.pre; rw [List.length_take] at this; simp at this; omega
  have IA : At ⟨K, cs.map (·.2)⟩ H [] [] ([], []) (startS ns N) (L2.start N [.ref a]) [] H := by
    refine ⟨[], fun _ h => h, (fun _ z => nomatch z), (fun _ z => nomatch z), (fun _ z => nomatch z), (fun _ z => nomatch z), Gr.refl _ _ _, (fun _ z => nomatch z), (fun _ z => nomatch z), (fun _ z => nomatch z), fun p hp => tabG0 (tbl p hp), (fun _ z => nomatch z), ?_, fun i sl e => ?_, fun i k o o' q e1 e2 e3 e4 => ?_, (fun _ z => nomatch z), fun b od u e => .inl (by rw [e]; exact fun z => nomatch z), .none fun i o e => (by
      exfalso
      cases i with
      | zero => cases e
      | succ i =>
        unfold startS at e
        rw [List.getElem?_cons_succ, List.getElem?_replicate] at e
        split at e <;> cases e)⟩
    · unfold startS L2.start
      simp only [List.length_append, List.length_replicate, List.length_map, List.length_cons, List.length_nil]
      omega
    · cases i with
      | zero =>
        cases e
        exact ⟨.ref a, rfl, a, rfl, by rw [e00]; exact hS⟩
      | succ i =>
        exfalso
        unfold startS at e
        rw [List.getElem?_cons_succ, List.getElem?_replicate] at e
        split at e <;> cases e
    · cases i with
      | zero => cases e1
      | succ i =>
        exfalso
        unfold startS at e1
        rw [List.getElem?_cons_succ, List.getElem?_replicate] at e1
        split at e1 <;> cases e1
  have sys2 : s₁.heap.get? sysModules ≠ none := by
    obtain ⟨o, e, _⟩ := sysM
    rw [e]
    exact fun z => nomatch z
  have hb := hbody (hidT s₁.heap H) H (fun _ _ _ => False) hKb (ns_ hns) TB hr2 hsys sys2 H [] [] ([], []) _ [] H IA
  have run := (pss_sem (X := (cxOf CX0 P w K mg (hidT s₁.heap H) N x (defScope st) fa (.ref c) callerA [] s₁ H fun _ _ _ => False).nox) (sts := defBody st)).nox.run [] s1 (L2.start N [.ref a]) H { nx := fun _ _ => False, rt := fun v _ => v = .bl true } I (semSs_le ⟨fun σ' H' h => ?_, fun v H' h => ?_, fun _ _ h => ?_, fun _ _ h => ?_⟩ hb)
  · refine wpAny_mono run (fun fl s' hs => ?_) fun e s' hs => ?_
    · cases fl with
      | ret u =>
        obtain ⟨v, σ', H', J, ru, hv⟩ := hs
        subst hv
        obtain rfl : u = Value.bool true := ru
        have un := J.base
        refine ⟨rfl, ⟨fun b o e => ?_, fun b o e => ?_⟩, J.os, J.bare⟩
        · cases q : H b with
          | none => exact .inl (un.keep b o e q (fun z => nomatch z) (fun z => nomatch z))
          | some u =>
            rcases cases3 b u q with ⟨hb, rfl⟩ | ⟨rfl, _, rfl⟩
            · rw [(isT b hb).1] at e
              cases e
              obtain ⟨more, z⟩ := un.tbls b #[] q
              obtain ⟨p, hp, rfl⟩ := List.mem_map.mp hb
              exact .inr (.inl ⟨((C p hp).tab (hT p hp)).isCodeTable, rfl, #[], _, rfl, J.hok _ _ z⟩)
            · obtain ⟨e2, _⟩ := J.hok b _ (un.frzs b _ _ q)
              rw [ha] at e
              cases e
              exact .inl e2
        · exact un.there b o e (fun z => nomatch z)
      | next => obtain ⟨_, _, _, q⟩ := hs; exact q.elim
      | brk => obtain ⟨_, _, _, q⟩ := hs; exact q.elim
      | cont => obtain ⟨_, _, _, q⟩ := hs; exact q.elim
    · exact wpAny_mono hs (fun _ _ h => (show False from h).elim) fun _ _ h => (show False from h).elim
  · obtain ⟨_, _, h⟩ := h
    exact h
  · obtain ⟨d, J, h⟩ := h
    have q := J.rp
    rw [h] at q
    exact q.bool'
  · obtain ⟨_, _, h⟩ := h
    exact h
  · obtain ⟨_, _, h⟩ := h
    exact h
/-- what is to be shown of a law -/
def LawG (l : OpenLaw) (w : World) (K : Frag) (k n : Nat) (mg : Str → Option Value) (fa : Addr) (h : Heap) : Prop :=
  ∃ (fd : FuncData) (cs : List (Addr × Addr)) (x : Str) (st : Stmt) (c : Addr) (N : List Str), (∀ p ∈ cs, h.get? p.2 = some { cls := .none, data := .fields #[] }) ∧ (∀ p ∈ cs, K.lookup p.2 = none) ∧ (∀ p ∈ cs, CodeHd h p.1 p.2) ∧ (∀ (s : Shared) (u : Value), BindsTo s fd ⟨[u], []⟩ [("script", u)]) ∧
    FunC K x x st fa c fd ∧ FnScope N ["script"] (defScope st) ∧
    ∀ (base : Heap) (s : Shared) (H : Hp) (E : XK) (ns : List Int), ns.length ≤ n → K.In base → base.Ns mainGlobals mg → (∀ p ∈ cs, GxR.TabB base mg p.1 p.2) → Room k (callerA.deeper (envOfC x (defScope st) s.heap.objs.size fa (.ref c))) → H sysModules = none → s.heap.get? sysModules ≠ none →
      wpSs (cxOf CX0 l.prog w K mg base N x (defScope st) fa (.ref c) callerA [] s H E).nox (cs.map (·.2)) (defBody st) (startS ns N) { nx := fun _ => False, rt := fun d => d = .bool true }
theorem walk_G {l : OpenLaw} {n k : Nat} {q : Program} {loose : List Str} {XP : (Str → Option Value) → Heap → Prop} {YP : World → Heap → Prop} {d : DefRec} {K : Params → Frag}
    (hn : l.most = some n) (hn2 : n ≤ sizeLine) (hdf : d.params.defaults = []) (hr : Room (k + 1) callerA) (hi : importsNone q = true) (hY : ∀ (w : World) (h : Heap), YP w h → (K w.params).In h)
    (F : ∀ (w : World) (mg : Str → Option Value) (fa : Addr) (h : Heap), (K w.params).In h → h.Ns mainGlobals mg → mg d.name = some (.ref fa) → TabFacts (K w.params) h q → LawG l w (K w.params) k n mg fa h) :
    WalkO q loose XP YP l.row.toRowW d [] (fun f vs => PySem.call f vs) := by
  refine Att.attach_callB hn hdf fun w s₀ s₁ mg mb fa o pm cd doc a vs ns G Y ho hd hcd hmg hobj hints hlen hbits hg => ?_
  have KX := hY w _ Y
  obtain ⟨fd, cs, x, st, c, N, hT, nT, C, hb, hF, hS, body⟩ := F w mg fa _ KX G.T.g hmg (tab_facts KX G.T)
  have sysM : ∃ o, s₁.heap.get? sysModules = some o ∧ (∀ ws n, o.data ≠ .seq ws n) ∧ o.data ≠ .fields #[] := by
    obtain ⟨_, ⟨o, es, ep, e, d, _⟩, _⟩ := (G.T.seer hi).mods
    exact ⟨o, e, (fun _ _ z => by rw [d] at z; cases z), fun z => by rw [d] at z; cases z⟩
  obtain ⟨os, e1, e2, e3⟩ := sysM
  refine law_run KX G.T.g G.T.b G.T.builtins G.T.nolimit hg hT nT C G.T.bmain hobj hints (Nat.le_trans hlen hn2) hr hF hS hb ⟨os, e1, e2⟩ (fun z => ?_) fun base H E k1 k2 k3 k4 k5 k6 => body base s₁ H E ns hlen k1 k2 k3 k4 k5 k6
  obtain ⟨p, hp, e⟩ := List.mem_map.mp z
  rw [← e, hT p hp] at e1
  cases e1
  exact e3 rfl
end
end DL

set_option Elab.async false
set_option linter.all false
set_option maxRecDepth 100000
set_option maxHeartbeats 2000000
/-! DL15: repr of data. -/
namespace DL
open PySem PySem.Spec L2
section
variable {X : Cx} {pins : List (Addr × Obj)} {σ : L2.St} {H : Hp} {s : Shared}
theorem key_reads {h : Heap} {k : Key} {v : Value} (e : keyIs k v = true) : Reads h v (kD k) [] := by
  rcases keyIs_shape e with ⟨i, t, rfl, rfl⟩ | ⟨y, t, rfl, rfl⟩
  · exact .int i t
  · exact .str y t
theorem keys_reads {P : Program} {w : World} {h : Heap} : ∀ {es : List DictEntry} {kvs : List (Key × Value)}, Pairs (mixKind P w) es kvs → ReadsAll h (es.map (·.key)) (kvs.map fun q => kD q.1) [] ∧ es.map (·.val) = kvs.map (·.2)
  | _, _, .nil => ⟨.nil, rfl⟩
  | _, _, .cons h1 h2 r => by
    obtain ⟨a, b⟩ := keys_reads (h := h) r
    exact ⟨.cons (key_reads h1) a, by rw [List.map_cons, List.map_cons, h2, b]⟩
theorem kv_keys : ∀ {kvs : List (Key × V)} {vs : List (Key × Value)}, KV kvs vs → vs.map (·.1) = kvs.map (·.1)
  | _, _, .nil => rfl
  | _, _, .cons h r => by rw [List.map_cons, List.map_cons, h.1, kv_keys r]
theorem kv_vals : ∀ {kvs : List (Key × V)} {vs : List (Key × Value)}, KV kvs vs → Vals (kvs.map (·.2)) (vs.map (·.2))
  | _, _, .nil => .nil
  | _, _, .cons h r => .cons h.2 (kv_vals r)
theorem RpK.keysD {H : Hp} : ∀ {kvs : List (Key × V)} {ks : List (D × D)}, RpK H kvs ks → ks.map (·.1) = kvs.map fun q => kD q.1
  | _, _, .nil => rfl
  | _, _, .cons _ r => by rw [List.map_cons, List.map_cons, RpK.keysD r]
theorem RpK.valsD {H : Hp} : ∀ {kvs : List (Key × V)} {ks : List (D × D)}, RpK H kvs ks → RpA H (kvs.map (·.2)) (ks.map (·.2))
  | _, _, .nil => .nil
  | _, _, .cons h r => .cons h (RpK.valsD r)
theorem bad_no : decide (badI.natAbs.log2 < 1920) = false := by decide +kernel
mutual
theorem Rp.reads (I : Inv X pins σ H s) (nS : H sysModules = none) : ∀ (d : D) (v : V) (u : Value), Rp H v d → RelV v u → d.showable = true → ∃ as, Reads s.heap u d as ∧ sysModules ∉ as
  | .none, _, _, h, r, sh => by
    cases h
    cases r
    exact ⟨[], .none, by simp⟩
  | .bool b, _, _, h, r, sh => by
    cases h
    cases r
    exact ⟨[], .bool b, by simp⟩
  | .int i, _, _, h, r, sh => by
    cases h
    obtain ⟨t, rfl⟩ := r
    exact ⟨[], .int i t, by simp⟩
  | .str y, _, _, h, r, sh => by
    cases h
    obtain ⟨t, rfl⟩ := r
    exact ⟨[], .str y t, by simp⟩
  | .list ds, _, _, h, r, sh => by
    cases h with
    | @lst a xs _ ha hx =>
      cases r
      obtain ⟨its, rv, ⟨o, n, ho, hc, _, hd⟩, _⟩ := I.list (.inl (.inl ha))
      obtain ⟨as, hr, ns⟩ := RpA.reads I nS ds xs its hx rv (by simpa only [PyData.showable] using sh)
      exact ⟨_, .list ho hc hd hr, fun z => (List.mem_cons.mp z).elim (fun z => by rw [← z, nS] at ha; cases ha) ns⟩
  | .tuple ds, _, _, h, r, sh => by
    cases h with
    | @tup a xs _ ha hx =>
      cases r
      obtain ⟨its, rv, ⟨o, ho, hc, n, hd⟩, _⟩ := I.tuple (.inl (.inl ha))
      obtain ⟨as, hr, ns⟩ := RpA.reads I nS ds xs its hx rv (by simpa only [PyData.showable] using sh)
      exact ⟨_, .tuple ho hc hd hr, ns⟩
  | .dict ks, _, _, h, r, sh => by
    cases h with
    | ins _ _ _ =>
      simp only [PyData.showable, PyData.showableKv, bad_no, Bool.false_and, Bool.and_false] at sh
      cases sh
    | @dic a kvs _ ha nd hk =>
      cases r
      obtain ⟨_, hsys, vs, kv, o, es, ep, ho, hx, hd, _, hp, _⟩ := dk_rd I.hok ha
      obtain ⟨q1, q2⟩ := keys_reads (h := s.heap) hp
      obtain ⟨bs, hr, ns⟩ := RpK.reads I nS ks kvs (vs.map (·.2)) hk (kv_vals kv) (by simpa only [PyData.showable] using sh)
      have e1 : vs.map (fun q => kD q.1) = ks.map (·.1) := by
        rw [hk.keysD]
        have := kv_keys kv
        have h2 := congrArg (List.map kD) this
        rw [List.map_map, List.map_map] at h2
        exact h2
      rw [e1] at q1
      rw [← q2] at hr
      refine ⟨_, .dict ho hx.1 hd q1 hr, fun z => ?_⟩
      rcases List.mem_append.mp z with z | z
      · rcases List.mem_cons.mp z with z | z
        · rw [← z] at hsys
          exact absurd hsys (by decide)
        · cases z
      · exact ns z
termination_by d => sizeOf d
theorem RpA.reads (I : Inv X pins σ H s) (nS : H sysModules = none) : ∀ (ds : List D) (vs : List V) (us : List Value), RpA H vs ds → Vals vs us → PyData.showableAll ds = true → ∃ as, ReadsAll s.heap us ds as ∧ sysModules ∉ as
  | [], _, _, h, r, sh => by
    cases h
    cases r
    exact ⟨[], .nil, by simp⟩
  | d :: ds, _, _, h, r, sh => by
    simp only [PyData.showableAll, Bool.and_eq_true] at sh
    cases h with
    | cons h1 h2 =>
      cases r with
      | cons r1 r2 =>
        obtain ⟨as, q1, n1⟩ := Rp.reads I nS d _ _ h1 r1 sh.1
        obtain ⟨bs, q2, n2⟩ := RpA.reads I nS ds _ _ h2 r2 sh.2
        exact ⟨_, .cons q1 q2, fun z => (List.mem_append.mp z).elim n1 n2⟩
termination_by ds => sizeOf ds
theorem RpK.reads (I : Inv X pins σ H s) (nS : H sysModules = none) : ∀ (ks : List (D × D)) (kvs : List (Key × V)) (us : List Value), RpK H kvs ks → Vals (kvs.map (·.2)) us → PyData.showableKv ks = true → ∃ as, ReadsAll s.heap us (ks.map (·.2)) as ∧ sysModules ∉ as
  | [], _, _, h, r, sh => by
    cases h
    cases r
    exact ⟨[], .nil, by simp⟩
  | (k, d) :: ks, _, _, h, r, sh => by
    simp only [PyData.showableKv, Bool.and_eq_true] at sh
    cases h with
    | cons h1 h2 =>
      cases r with
      | cons r1 r2 =>
        obtain ⟨as, q1, n1⟩ := Rp.reads I nS d _ _ h1 r1 sh.1.2
        obtain ⟨bs, q2, n2⟩ := RpK.reads I nS ks _ _ h2 r2 sh.2
        exact ⟨_, .cons q1 q2, fun z => (List.mem_append.mp z).elim n1 n2⟩
termination_by ks => sizeOf ks
end
end
section
variable {X : Cx} {Tb : List Addr}
def rReprD : List V → Hp → VK → Prop := fun xs H Q => ∃ a d, xs = [.ref a] ∧ Rp H (.ref a) d ∧ d.showable = true ∧ d.depth ≤ 64 ∧ d.shown.length ≤ sizeLine ∧ Q (.str d.shown) H
theorem call_reprD (hg : X.A.guards = some []) (hu : X.A.units + 80 < cLine) (h0 : X.H_0 sysModules = none) (h1 : X.s_0.heap.get? sysModules ≠ none) (hex : X.ex = []) : CallR X (.builtin "repr") rReprD := by
  intro pins s σ H xs us Q I r h
  obtain ⟨a, d, rfl, rp, hs, hd, hz, q⟩ := h
  obtain ⟨u, rfl, r1⟩ := vals1 r
  cases (show u = Value.ref a from r1)
  have nS : H sysModules = none := by
    cases e : X.s_0.heap.get? sysModules with
    | none => exact absurd e h1
    | some o => exact I.base.free _ _ e h0 (by rw [hex]; simp)
  obtain ⟨as, rd, ns⟩ := Rp.reads I nS d _ _ rp rfl hs
  exact repr_of_reads' rd hs (fun _ => ns) hg (by omega) (fun _ _ e => e) (fun h' u tk k => ⟨.str d.shown, H, I.kept k, ⟨u, rfl⟩, q⟩) hz
def reprR : List D → (D → Prop) → Prop
  | [.list ds], P => (PyData.showable (.list ds) = true ∧ PyData.depth (.list ds) ≤ 64 ∧ (PyData.shown (.list ds)).length ≤ sizeLine) ∧ P (.str (PyData.shown (.list ds)))
  | [.tuple ds], P => (PyData.showable (.tuple ds) = true ∧ PyData.depth (.tuple ds) ≤ 64 ∧ (PyData.shown (.tuple ds)).length ≤ sizeLine) ∧ P (.str (PyData.shown (.tuple ds)))
  | _, _ => False
theorem ok_repr : OkC X Tb rReprD reprR := by
  intro B O0 M Lk O δ σ τ H vs ds P I r h Q q
  unfold reprR at h
  split at h
  · obtain ⟨v, rfl, rv⟩ := r.one'
    obtain ⟨a, xs, rfl, ha, ra⟩ := rv.list'
    exact ⟨a, _, rfl, (Rp.lst ha ra).mono vis_all, h.1.1, h.1.2.1, h.1.2.2, q _ _ H ⟨O, I.push (.str _)⟩ h.2⟩
  · obtain ⟨v, rfl, rv⟩ := r.one'
    obtain ⟨a, xs, rfl, ha, ra⟩ := rv.tuple'
    exact ⟨a, _, rfl, (Rp.tup ha ra).mono vis_all, h.1.1, h.1.2.1, h.1.2.2, q _ _ H ⟨O, I.push (.str _)⟩ h.2⟩
  · exact h.elim
theorem boot_repr' : bootBuiltins "repr" = some (.builtin "repr") := by decide +kernel
end
end DL

set_option Elab.async false
set_option linter.all false
set_option maxRecDepth 100000
set_option maxHeartbeats 2000000
/-! DL16: dicts of the frame's own. -/
namespace DL
open PySem PySem.Spec L2
section
variable {X : Cx} {Tb : List Addr} {δ : Dl} {a b c e o i : Expr} {es : List Expr} {pos pos' p : Pos} {P P' : D → Prop} {st : Stmt} {sts : List Stmt} {R R' : Rs}
theorem AtO.ownD {G : Glo} {B : Hp} {O0 M O : List Addr} {Lk : Lks} {σ : L2.St} {τ : List (V × D)} {H : Hp} {kvs : List (Key × V)} {ks : List (D × D)} {q : Addr} {j : Nat} (I : AtO G B O0 M Lk O δ σ τ H) (hq : H q = none) (nd : (kvs.map (·.1)).Nodup) (r : RpK (vis O H) kvs ks) :
    AtO G B O0 M Lk (q :: O) (δ.set j (some (.own (.dic ks)))) (σ.set j (some (.ref q))) τ (upd H q (.dK kvs)) := by
  obtain ⟨J, hn⟩ := I.alloc (o := .dK kvs) hq
  have hB : B q = none := by
    cases e : B q with
    | none => rfl
    | some u =>
      have hM : q ∉ M := fun z => hn (I.sub0 _ (I.subM _ z))
      rcases I.gr q u hM e with h | ⟨_, _, _, h, _⟩ | ⟨_, _, h⟩ <;> rw [hq] at h <;> cases h
  have ve : vis (q :: O) (upd H q (.dK kvs)) = vis O H := by
    funext a
    by_cases ha : a = q
    · subst ha
      rw [vis_in List.mem_cons_self, vis_out hn, hq]
    · by_cases ho : a ∈ O
      · rw [vis_in (List.mem_cons_of_mem _ ho), vis_in ho]
      · rw [vis_out (by simp [ha, ho]), vis_out ho, upd_ne ha]
  have hlen : (δ.set j (some (.own (.dic ks)))).length = (σ.set j (some (.ref q))).length := by rw [List.length_set, List.length_set]; exact I.len
  have oldref : ∀ (i : Nat) (o : OD), δ[i]? = some (some (.own o)) → σ[i]? ≠ some (some (.ref q)) := fun i o e z => by
    obtain ⟨v, h1, p, rfl, h2, _⟩ := I.slots i _ e
    rw [z] at h1
    have : V.ref q = V.ref p := Option.some.inj (Option.some.inj h1)
    exact hn (by rw [V.ref.inj this]; exact h2)
  refine ⟨fun p hp => List.mem_cons_of_mem _ (I.sub0 p hp), I.subM, I.o0, fun p hp => ?_, fun p hp => ?_, J.gr, fun p hp => ?_, I.hidT, J.feeds, J.tabs, fun p hp => by rw [ve]; exact I.tmp p hp, hlen, fun i sl e => ?_, fun i k o o' p e1 e2 e3 e4 => ?_, fun p hp => ⟨fun z => (List.mem_cons.mp z).elim (fun z => by have h := (I.lck p hp).2; rw [z, hq] at h; cases h) (I.lck p hp).1, by rw [upd_ne fun z => by have h := (I.lck p hp).2; rw [z, hq] at h; cases h]; exact (I.lck p hp).2⟩, J.nof, I.inn.setO rfl (I.innN hn) I.len⟩
  · rcases List.mem_cons.mp hp with e | hp
    · exact .inr (by rw [e]; exact hB)
    · exact I.new p hp
  · rcases List.mem_cons.mp hp with e | hp
    · rw [e, upd_same]
      exact fun z => nomatch z
    · exact J.live p hp
  · obtain ⟨h1, h2, h3, h4⟩ := I.hid p hp
    have np : p.1 ≠ q := fun z => hn (by rw [← z]; exact h2)
    refine ⟨by rw [upd_ne np]; exact h1, List.mem_cons_of_mem _ h2, h3, fun i o e => ?_⟩
    by_cases hj : j = i
    · subst hj
      have hlt : j < δ.length := by
        have := (List.getElem?_eq_some_iff.mp e).1
        rwa [List.length_set] at this
      rw [List.getElem?_set_self (by rw [← I.len]; exact hlt)]
      exact fun z => np (V.ref.inj (Option.some.inj (Option.some.inj z))).symm
    · rw [List.getElem?_set_ne hj] at e ⊢
      exact h4 i o e
  · by_cases hj : j = i
    · subst hj
      have hlt : j < δ.length := by
        have := (List.getElem?_eq_some_iff.mp e).1
        rwa [List.length_set] at this
      rw [List.getElem?_set_self hlt] at e
      cases e
      exact ⟨.ref q, by rw [List.getElem?_set_self (by rw [← I.len]; exact hlt)], q, rfl, List.mem_cons_self, .inr hB, .inr hB, kvs, upd_same, nd, by rw [ve]; exact r⟩
    · rw [List.getElem?_set_ne hj] at e
      obtain ⟨u, h1, h2⟩ := I.slots i sl e
      refine ⟨u, by rw [List.getElem?_set_ne hj]; exact h1, ?_⟩
      cases sl with
      | d d =>
        show Rp (vis (q :: O) _) u d
        rw [ve]
        exact h2
      | scr ns =>
        obtain ⟨a, e2, h2⟩ := h2
        refine ⟨a, e2, ?_⟩
        rw [ve]
        exact h2
      | own o =>
        obtain ⟨p, e2, hp, hb, hb2, h2⟩ := h2
        refine ⟨p, e2, List.mem_cons_of_mem _ hp, hb, hb2, ?_⟩
        have np : p ≠ q := fun z => hn (by rw [← z]; exact hp)
        cases o with
        | feed => obtain ⟨a, b, h2⟩ := h2; exact ⟨a, b, by rw [upd_ne np]; exact h2⟩
        | lst ds => obtain ⟨ys, h2, h3⟩ := h2; exact ⟨ys, by rw [upd_ne np]; exact h2, by rw [ve]; exact h3⟩
        | dic ks => obtain ⟨ys, h2, h4, h3⟩ := h2; exact ⟨ys, by rw [upd_ne np]; exact h2, h4, by rw [ve]; exact h3⟩
        | lss qs => exact ⟨by rw [upd_ne np]; exact h2.1, fun x hx => ⟨List.mem_cons_of_mem _ (h2.2 x hx).1, by
            obtain ⟨ys, h3, h4⟩ := (h2.2 x hx).2
            exact ⟨ys, by rw [upd_ne fun z => hn (by rw [← z]; exact (h2.2 x hx).1)]; exact h3, by rw [ve]; exact h4⟩⟩⟩
  · by_cases h1 : j = i
    · by_cases h2 : j = k
      · exact h1.symm.trans h2
      · subst h1
        have hlt : j < δ.length := by
          have := (List.getElem?_eq_some_iff.mp e1).1
          rwa [List.length_set] at this
        rw [List.getElem?_set_self (by rw [← I.len]; exact hlt)] at e3
        have ep : q = p := V.ref.inj (Option.some.inj (Option.some.inj e3))
        rw [List.getElem?_set_ne h2] at e2 e4
        exact (oldref k o' e2 (by rw [ep]; exact e4)).elim
    · rw [List.getElem?_set_ne h1] at e1 e3
      by_cases h2 : j = k
      · subst h2
        have hlt : j < δ.length := by
          have := (List.getElem?_eq_some_iff.mp e2).1
          rwa [List.length_set] at this
        rw [List.getElem?_set_self (by rw [← I.len]; exact hlt)] at e4
        have ep : q = p := V.ref.inj (Option.some.inj (Option.some.inj e4))
        exact (oldref i o e1 (by rw [ep]; exact e3)).elim
      · rw [List.getElem?_set_ne h2] at e2 e4
        exact I.sep i k o o' p e1 e2 e3 e4

theorem AtO.thawD {G : Glo} {B : Hp} {O0 M O : List Addr} {Lk : Lks} {σ : L2.St} {τ : List (V × D)} {H : Hp} {ks : List (D × D)} {j : Nat} (I : AtO G B O0 M Lk O δ σ τ H) (hj : δ[j]? = some (some (.own (.dic ks)))) : ∃ O', AtO G B O0 M Lk O' (δ.set j (some (.d (.dict ks)))) σ τ H := by
  obtain ⟨v, hv, p, rfl, hp, _, hb2, kvs, hx, nd, r⟩ := I.slots j _ hj
  have hB : B p = none := hb2.elim (fun z => by cases z) id
  have memO : ∀ {a}, a ∈ O.filter (fun a => decide (a ≠ p)) ↔ a ∈ O ∧ a ≠ p := fun {a} => by simp
  have le : Le (vis O H) (vis (O.filter (fun a => decide (a ≠ p))) H) := vis_le fun a ha => (memO.mp ha).1
  have hlt : j < δ.length := (List.getElem?_eq_some_iff.mp hj).1
  refine ⟨O.filter (fun a => decide (a ≠ p)), fun a ha => memO.mpr ⟨I.sub0 a ha, fun z => I.o0 a ha (by rw [z]; exact hB)⟩, I.subM, I.o0, fun a ha => I.new a (memO.mp ha).1, fun a ha => I.live a (memO.mp ha).1, I.gr, fun q hq => ?_, I.hidT, I.feeds, I.tabs, fun q hq => (I.tmp q hq).mono le,
    by rw [List.length_set]; exact I.len, fun i sl e => ?_, fun i k o o' q e1 e2 e3 e4 => ?_, fun q hq => ⟨fun z => (I.lck q hq).1 (memO.mp z).1, (I.lck q hq).2⟩, I.nof, I.inn.tellD (fun _ z => by cases z)⟩
  · obtain ⟨h1, h2, h3, h4⟩ := I.hid q hq
    refine ⟨h1, memO.mpr ⟨h2, fun z => h4 j _ hj (by rw [z]; exact hv)⟩, h3, fun i o e => ?_⟩
    by_cases h5 : j = i
    · subst h5
      rw [List.getElem?_set_self hlt] at e
      cases e
    · rw [List.getElem?_set_ne h5] at e
      exact h4 i o e
  · by_cases h1 : j = i
    · subst h1
      rw [List.getElem?_set_self hlt] at e
      cases e
      refine ⟨.ref p, hv, .dic (.inl ?_) nd (r.mono le)⟩
      rw [vis_out fun z => (memO.mp z).2 rfl]
      exact hx
    · rw [List.getElem?_set_ne h1] at e
      obtain ⟨u, h2, h3⟩ := I.slots i sl e
      refine ⟨u, h2, ?_⟩
      cases sl with
      | d d => exact Rp.mono le h3
      | scr ns => obtain ⟨a, e2, h3⟩ := h3; exact ⟨a, e2, ex_seq le h3⟩
      | own o =>
        obtain ⟨a, e2, ha, hb, hb2, h3⟩ := h3
        have na : a ≠ p := fun z => h1 (I.sep j i _ o p hj e hv (by rw [h2, e2, z]))
        refine ⟨a, e2, memO.mpr ⟨ha, na⟩, hb, hb2, ?_⟩
        cases o with
        | feed => exact h3
        | lst ds => obtain ⟨zs, h4, h5⟩ := h3; exact ⟨zs, h4, h5.mono le⟩
        | dic ks => obtain ⟨zs, h4, h6, h5⟩ := h3; exact ⟨zs, h4, h6, h5.mono le⟩
        | lss qs => exact ⟨h3.1, fun x hx => ⟨memO.mpr ⟨(h3.2 x hx).1, fun z => I.inn.own i j _ _ e hj x.1 (List.mem_map_of_mem hx) (by rw [z]; exact hv)⟩, by
            obtain ⟨zs, h4, h5⟩ := (h3.2 x hx).2
            exact ⟨zs, h4, h5.mono le⟩⟩⟩
  · have n : ∀ {i o}, (δ.set j (some (.d (.dict ks))))[i]? = some (some (Sl.own o)) → j ≠ i := fun {i o} e z => by
      subst z
      rw [List.getElem?_set_self hlt] at e
      cases e
    rw [List.getElem?_set_ne (n e1)] at e1
    rw [List.getElem?_set_ne (n e2)] at e2
    exact I.sep i k o o' q e1 e2 e3 e4

theorem AtO.mutD {G : Glo} {B : Hp} {O0 M O : List Addr} {Lk : Lks} {σ : L2.St} {τ : List (V × D)} {H : Hp} {ds es : List (D × D)} {ys : List (Key × V)} {j : Nat} {p : Addr} (I : AtO G B O0 M Lk O δ σ τ H) (hj : δ[j]? = some (some (.own (.dic ds)))) (hp : σ[j]? = some (some (.ref p))) (nd : (ys.map (·.1)).Nodup) (r : RpK (vis O H) ys es) :
    AtO G B O0 M Lk O (δ.set j (some (.own (.dic es)))) σ τ (upd H p (.dK ys)) := by
  obtain ⟨v, hv, p', rfl, hpO, _, hb2, xs, hx, _, _⟩ := I.slots j _ hj
  obtain rfl : p = p' := V.ref.inj (Option.some.inj (Option.some.inj (hp.symm.trans hv)))
  have hB : B p = none := hb2.elim (fun z => by cases z) id
  have hM : p ∉ M := fun z => I.o0 p (I.subM p z) hB
  have ve : vis O (upd H p (.dK ys)) = vis O H := le_mut hpO
  have hlt : j < δ.length := (List.getElem?_eq_some_iff.mp hj).1
  refine ⟨I.sub0, I.subM, I.o0, I.new, fun a ha => ?_, I.gr.mut (.inr hB), fun q hq => ?_, I.hidT, fun f hf => ?_, fun P hP => ?_, fun q hq => by rw [ve]; exact I.tmp q hq, by rw [List.length_set]; exact I.len, fun i sl e => ?_, fun i k o o' q e1 e2 e3 e4 => ?_, fun q hq => ⟨(I.lck q hq).1, by rw [upd_ne fun z => (I.lck q hq).1 (by rw [z]; exact hpO)]; exact (I.lck q hq).2⟩, fun a od u e => (by
    by_cases h : a = p
    · rw [h, upd_same] at e; cases e
    · rw [upd_ne h] at e; exact I.nof a od u e), I.inn.mut hj rfl⟩
  · by_cases h1 : a = p
    · rw [h1, upd_same]
      exact fun z => nomatch z
    · rw [upd_ne h1]
      exact I.live a ha
  · obtain ⟨h1, h2, h3, h4⟩ := I.hid q hq
    have nq : q.1 ≠ p := fun z => h4 j _ hj (by rw [z]; exact hv)
    refine ⟨by rw [upd_ne nq]; exact h1, h2, h3, fun i o e => ?_⟩
    by_cases h5 : j = i
    · subst h5
      exact h4 j _ hj
    · rw [List.getElem?_set_ne h5] at e
      exact h4 i o e
  · obtain ⟨a, b, h1⟩ := I.feeds f hf
    exact ⟨a, b, by rw [upd_ne fun z => hM (by rw [← z]; exact hf)]; exact h1⟩
  · obtain ⟨qs, h1, h2⟩ := I.tabs P hP
    refine ⟨qs, ?_, h2⟩
    rw [upd_ne fun z => ?_]
    · exact h1
    · rw [z, hx] at h1
      cases h1
  · by_cases h1 : j = i
    · subst h1
      rw [List.getElem?_set_self hlt] at e
      cases e
      exact ⟨.ref p, hv, p, rfl, hpO, .inr hB, .inr hB, ys, upd_same, nd, by rw [ve]; exact r⟩
    · rw [List.getElem?_set_ne h1] at e
      obtain ⟨u, h2, h3⟩ := I.slots i sl e
      refine ⟨u, h2, ?_⟩
      cases sl with
      | d d =>
        show Rp (vis O _) u d
        rw [ve]
        exact h3
      | scr ns =>
        obtain ⟨a, e2, h3⟩ := h3
        refine ⟨a, e2, ?_⟩
        rw [ve]
        exact h3
      | own o =>
        obtain ⟨a, e2, ha, hb, hb2, h3⟩ := h3
        have na : a ≠ p := fun z => h1 (I.sep j i _ o p hj e hv (by rw [h2, e2, z]))
        refine ⟨a, e2, ha, hb, hb2, h3.le (by rw [ve]; exact Le.refl _) (fun _ q => by rw [upd_ne na]; exact q) (fun _ q => by rw [upd_ne na]; exact q) fun x hx xs q => by rw [upd_ne fun z => I.inn.own i j _ _ e hj x hx (by rw [z]; exact hv)]; exact q⟩
  · have n : ∀ {i : Nat} {o}, (δ.set j (some (.own (.dic es))))[i]? = some (some (Sl.own o)) → ∃ o, δ[i]? = some (some (Sl.own o)) := fun {i o} e => by
      by_cases h1 : j = i
      · subst h1
        exact ⟨_, hj⟩
      · rw [List.getElem?_set_ne h1] at e
        exact ⟨_, e⟩
    obtain ⟨o1, e1⟩ := n e1
    obtain ⟨o2, e2⟩ := n e2
    exact I.sep i k o1 o2 q e1 e2 e3 e4

/-- a put, over any values -/
def putA {α : Type} (ks : List (Key × α)) (k : Key) (v : α) : List (Key × α) :=
  if (ks.any fun kv => decide (kv.1 = k)) = true then ks.map (fun kv => if kv.1 = k then (kv.1, v) else kv) else ks ++ [(k, v)]
theorem kD_inj {a b : Key} (h : kD a = kD b) : a = b := by
  cases a <;> cases b <;> simp only [kD] at h <;> cases h <;> rfl
def asD (ks : List (Key × D)) : List (D × D) := ks.map fun q => (kD q.1, q.2)
theorem rpk_keys {H : Hp} : ∀ {kvs : List (Key × V)} {ks : List (Key × D)}, RpK H kvs (asD ks) → kvs.map (·.1) = ks.map (·.1)
  | [], [], _ => rfl
  | (k, v) :: kvs, (k', d) :: ks, h => by
    unfold asD at h
    rw [List.map_cons] at h
    generalize hk : (kD k', d) = q at h
    cases h with
    | cons h r =>
      have e := kD_inj (Prod.mk.inj hk).1
      rw [List.map_cons, List.map_cons, rpk_keys (ks := ks) r, e]
  | [], (k, d) :: ks, h => by unfold asD at h; rw [List.map_cons] at h; cases h
  | (k, v) :: kvs, [], h => by unfold asD at h; cases h
theorem rpk_cons {H : Hp} {k : Key} {v : V} {kvs : List (Key × V)} {k' : Key} {d : D} {ks : List (Key × D)} (h : RpK H ((k, v) :: kvs) (asD ((k', d) :: ks))) : k = k' ∧ Rp H v d ∧ RpK H kvs (asD ks) := by
  unfold asD at h
  rw [List.map_cons] at h
  generalize hk : (kD k', d) = q at h
  cases h with
  | cons h r =>
    obtain ⟨e1, e2⟩ := Prod.mk.inj hk
    rw [e2]
    exact ⟨(kD_inj e1).symm, h, r⟩
theorem rpk_app {H : Hp} : ∀ {kvs : List (Key × V)} {ks : List (Key × D)} {k : Key} {v : V} {d : D}, RpK H kvs (asD ks) → Rp H v d → RpK H (kvs ++ [(k, v)]) (asD (ks ++ [(k, d)]))
  | [], [], _, _, _, _, r => .cons r .nil
  | (k, v) :: kvs, (k', d) :: ks, _, _, _, h, r => by
    obtain ⟨rfl, h1, h2⟩ := rpk_cons h
    exact .cons h1 (rpk_app h2 r)
  | [], (k, d) :: ks, _, _, _, h, _ => by unfold asD at h; rw [List.map_cons] at h; cases h
  | (k, v) :: kvs, [], _, _, _, h, _ => by unfold asD at h; cases h
theorem rpk_set {H : Hp} {k : Key} {v : V} {d : D} (r : Rp H v d) : ∀ {kvs : List (Key × V)} {ks : List (Key × D)}, RpK H kvs (asD ks) → RpK H (kvs.map fun kv => if kv.1 = k then (kv.1, v) else kv) (asD (ks.map fun kv => if kv.1 = k then (kv.1, d) else kv))
  | [], [], _ => .nil
  | (k1, v1) :: kvs, (k2, d1) :: ks, h => by
    obtain ⟨rfl, h1, h2⟩ := rpk_cons h
    rw [List.map_cons, List.map_cons]
    by_cases e : k1 = k
    · rw [if_pos e, if_pos e]
      exact .cons r (rpk_set r h2)
    · rw [if_neg e, if_neg e]
      exact .cons h1 (rpk_set r h2)
  | [], (k, d) :: ks, h => by unfold asD at h; rw [List.map_cons] at h; cases h
  | (k, v) :: kvs, [], h => by unfold asD at h; cases h
theorem any_key {α β : Type} (k : Key) : ∀ {xs : List (Key × α)} {ys : List (Key × β)}, xs.map (·.1) = ys.map (·.1) → (xs.any fun kv => decide (kv.1 = k)) = ys.any fun kv => decide (kv.1 = k)
  | [], [], _ => rfl
  | x :: xs, y :: ys, h => by
    rw [List.map_cons, List.map_cons] at h
    obtain ⟨h1, h2⟩ := List.cons.inj h
    rw [List.any_cons, List.any_cons, any_key k h2, h1]
  | [], _ :: _, h => by cases h
  | _ :: _, [], h => by cases h
theorem rpk_put {H : Hp} {k : Key} {v : V} {d : D} {kvs : List (Key × V)} {ks : List (Key × D)} (h : RpK H kvs (asD ks)) (r : Rp H v d) : RpK H (putK kvs k v) (asD (putA ks k d)) := by
  unfold putK putA
  rw [any_key k (rpk_keys h)]
  split
  · exact rpk_set r h
  · exact rpk_app h r
theorem putA_keys {α : Type} (ks : List (Key × α)) (k : Key) (v : α) : (putA ks k v).map (·.1) = if (ks.any fun kv => decide (kv.1 = k)) = true then ks.map (·.1) else ks.map (·.1) ++ [k] := by
  unfold putA
  split
  · rw [List.map_map]
    refine List.map_congr_left fun q _ => ?_
    show (if q.1 = k then (q.1, v) else q).1 = q.1
    split <;> rfl
  · rw [List.map_append]
    rfl
theorem putA_nodup {α : Type} {ks : List (Key × α)} {k : Key} {v : α} (h : (ks.map (·.1)).Nodup) : ((putA ks k v).map (·.1)).Nodup := by
  rw [putA_keys]
  split
  · exact h
  · rename_i hn
    rw [List.nodup_append]
    refine ⟨h, by simp, fun x hx y hy e => hn ?_⟩
    rw [List.mem_singleton.mp hy] at e
    obtain ⟨q, hq, e2⟩ := List.mem_map.mp hx
    exact List.any_eq_true.mpr ⟨q, hq, decide_eq_true (e2.trans e)⟩
theorem putK_nodup {kvs : List (Key × V)} {k : Key} {v : V} (h : (kvs.map (·.1)).Nodup) : ((putK kvs k v).map (·.1)).Nodup := putA_nodup (α := V) h
/-- name = {} -/
theorem wpS_newD {x : Str} {px : Pos} {dpos : Pos} (j : Nat) (h : R.nx (δ.set j (some (.own (.dic (asD [])))))) (hN : X.N.Nodup) (hi : X.N[j]? = some x := by rfl) (hx : Loc X.env.scope x := by first | exact Or.inl rfl | exact Or.inr rfl)
    (hs : swapsWith (.Dict [] [] dpos) (some (.Name x px)) pos.line X.env = pure false := by rfl) (hf : X.fn x = true ∨ X.env.scope.names.lookup x = some .local := by first | exact .inl rfl | exact .inr rfl) : wpS X Tb (.Assign [.Name x px] (.Dict [] [] dpos) pos) δ R := fun B O0 M Lk σ τ H I => by
  obtain ⟨O, J⟩ := I
  exact sem_s (ps_set hN hi hx pe_dnewK hs hf) fun q hq => ⟨_, ⟨_, J.ownD (j := j) (kvs := []) (ks := asD []) hq List.nodup_nil .nil⟩, h⟩
theorem wpSs_thawD {ks : List (D × D)} (j : Nat) (hj : δ[j]? = some (some (.own (.dic ks)))) (h : wpSs X Tb sts (δ.set j (some (.d (.dict ks)))) R) : wpSs X Tb sts δ R := fun B O0 M Lk σ τ H I => by
  obtain ⟨O, I⟩ := I
  obtain ⟨O', I'⟩ := I.thawD hj
  exact h B O0 M Lk σ τ H ⟨O', I'⟩
/-- name[k] = e -/
theorem wpS_put {x : Str} {px spos : Pos} {ks : List (Key × D)} (j : Nat) (hj : δ[j]? = some (some (.own (.dic (asD ks))))) (hu : X.A.units + 1 < cLine)
    (h : wpE X Tb e δ fun d => wpE X Tb i δ fun k => ∃ q : Key, k = kD q ∧ ks.length < sizeLine ∧ R.nx (δ.set j (some (.own (.dic (asD (putA ks q d))))))) (hN : X.N[j]? = some x := by rfl)
    (hv : Vis X.env.scope x := by first | exact Or.inl rfl | exact Or.inr (Or.inl rfl) | exact Or.inr (Or.inr rfl)) (h1 : (x == ("__debug__" : Str)) = false := by decide) (h2 : (x == ("__classdict__" : Str)) = false := by decide)
    (hs : swapsWith e (some (.Subscript (.Name x px) i spos)) pos.line X.env = pure false := by rfl) : wpS X Tb (.Assign [.Subscript (.Name x px) i spos] e pos) δ R := fun B O0 M Lk σ τ H I =>
  sem_s (ps_dput hu (pe_var hN hv h1 h2) pe_sem pe_sem hs) (h B O0 M Lk σ τ H I _ fun u d H1 J q => by
    obtain ⟨O, K⟩ := id J
    obtain ⟨v, e0, _⟩ := K.slots j _ hj
    refine ⟨v, e0, q B O0 M Lk σ _ H1 J _ fun w k H2 J2 q2 => ?_⟩
    obtain ⟨O2, K2⟩ := J2
    obtain ⟨v2, e2, p, rfl, hp, _, _, kvs, hx, nd, r⟩ := K2.slots j _ hj
    have ev : v = .ref p := Option.some.inj (Option.some.inj (e0.symm.trans e2))
    obtain ⟨K3, rw1, rw2⟩ := K2.pop2
    obtain ⟨kk, rfl, hl, hq⟩ := q2
    have ew : w = kV kk := by
      cases kk with
      | inl i => exact rw2.int'
      | inr y => exact rw2.str'
    have hlen : kvs.length = ks.length := by have := r.length; unfold asD at this; rw [List.length_map] at this; exact this
    refine ⟨p, _, ev, .inl ⟨kvs, kk, hx, ew, by rw [hlen]; exact hl, rfl⟩, _, ⟨O2, K3.mutD hj e2 (putK_nodup nd) (rpk_put r rw1)⟩, hq⟩)
end
end DL

set_option Elab.async false
set_option linter.all false
set_option maxRecDepth 100000
set_option maxHeartbeats 2000000
/-! DL17: short texts; draws and picks. -/
namespace DL
open PySem PySem.Spec L2
section
variable {X : Cx} {Tb : List Addr}
theorem op_mulS : OpR X (binaryOp .Mult) (fun x y H Q => ∃ z n, x = .str z ∧ y = .int n ∧ MulOk z n ∧ Q (.str (Txt.mul z n)) H) := by
  intro pins s σ H x y v u Q I rx ry h
  obtain ⟨z, n, rfl, rfl, hk, q⟩ := h
  obtain ⟨t, rfl⟩ := rx
  obtain ⟨t', rfl⟩ := ry
  exact SB.mul hk fun t2 k => ⟨.str (Txt.mul z n), H, I.tok _, ⟨_, rfl⟩, q⟩
def mulSR : D → D → (D → Prop) → Prop
  | .str z, .int n, P => MulOk z n ∧ P (.str (Txt.mul z n))
  | _, _, _ => False
theorem ok_mulS : Ok2 X Tb (fun x y H Q => ∃ z n, x = .str z ∧ y = .int n ∧ MulOk z n ∧ Q (.str (Txt.mul z n)) H) mulSR := by
  intro B O0 M Lk O δ σ τ H x y d1 d2 P I rx ry h Q q
  unfold mulSR at h
  split at h
  · rw [rx.str', ry.int']
    exact ⟨_, _, rfl, rfl, h.1, q _ _ H ⟨O, I.push (.str _)⟩ h.2⟩
  · exact h.elim
end
/-- a text of at most n signs, all of them ordinary -/
def Ok8 (n : Nat) (x : Str) : Prop := x.length ≤ n ∧ ∀ c ∈ x.cps.toList, c < 16 ^ 8
theorem Ok8.mono {n m : Nat} {x : Str} (h : Ok8 n x) (k : n ≤ m) : Ok8 m x := ⟨Nat.le_trans h.1 k, h.2⟩
theorem Ok8.app {n m : Nat} {x y : Str} (hx : Ok8 n x) (hy : Ok8 m y) : Ok8 (n + m) (x ++ y) := by
  refine ⟨by rw [strLen_append]; have := hx.1; have := hy.1; omega, fun c hc => ?_⟩
  have e : (x ++ y).cps.toList = x.cps.toList ++ y.cps.toList := by
    show (x.cps ++ y.cps).toList = _
    rw [Array.toList_append]
  rw [e] at hc
  exact (List.mem_append.mp hc).elim (hx.2 c) (hy.2 c)
theorem ok8_one {c : Nat} (h : c < 16 ^ 8) : Ok8 1 ⟨#[c]⟩ := ⟨Nat.le_refl 1, fun d hd => by
  have : d = c := by simpa using hd
  rw [this]
  exact h⟩
theorem ok8_empty (n : Nat) : Ok8 n Str.empty := ⟨Nat.zero_le _, fun c hc => by
  have : c ∈ ([] : List Nat) := hc
  cases this⟩
theorem repl_ok {c : Nat} (h : c < 16 ^ 8) : ∀ (k : Nat) (acc : Array Nat), (∀ d ∈ acc.toList, d < 16 ^ 8) → (((List.replicate k #[c]).foldl (· ++ ·) acc).size = acc.size + k ∧ ∀ d ∈ ((List.replicate k #[c]).foldl (· ++ ·) acc).toList, d < 16 ^ 8)
  | 0, acc, ha => ⟨rfl, ha⟩
  | k + 1, acc, ha => by
    rw [List.replicate_succ, List.foldl_cons]
    obtain ⟨h1, h2⟩ := repl_ok h k (acc ++ #[c]) (fun d hd => by
      rw [Array.toList_append] at hd
      rcases List.mem_append.mp hd with hd | hd
      · exact ha d hd
      · have : d = c := by simpa using hd
        rw [this]
        exact h)
    refine ⟨?_, h2⟩
    rw [h1, Array.size_append]
    show acc.size + 1 + k = acc.size + (k + 1)
    omega
theorem mul_one {c : Nat} {n : Int} (hc : c < 16 ^ 8) (h0 : 0 ≤ n) (h1 : n ≤ 8) : MulOk ⟨#[c]⟩ n ∧ Ok8 8 (Txt.mul ⟨#[c]⟩ n) := by
  have hl : (⟨#[c]⟩ : Str).length = 1 := rfl
  have cs : n = 0 ∨ n = 1 ∨ n = 2 ∨ n = 3 ∨ n = 4 ∨ n = 5 ∨ n = 6 ∨ n = 7 ∨ n = 8 := by omega
  refine ⟨?_, ?_⟩
  · unfold MulOk
    rw [hl]
    rcases cs with rfl | rfl | rfl | rfl | rfl | rfl | rfl | rfl | rfl <;> decide
  · unfold Txt.mul
    split
    · exact ok8_empty 8
    · split
      · exact (ok8_one hc).mono (by omega)
      · obtain ⟨k1, k2⟩ := repl_ok hc n.toNat #[] (fun d hd => by cases hd)
        refine ⟨?_, k2⟩
        show ((List.replicate n.toNat #[c]).foldl (· ++ ·) #[]).size ≤ 8
        rw [k1]
        show 0 + n.toNat ≤ 8
        omega
theorem ok8_text {n : Nat} {x : Str} (h : x.length ≤ n) (h2 : x.cps.toList.all (fun c => decide (c < 16 ^ 8)) = true) : Ok8 n x := ⟨h, fun c hc => of_decide_eq_true (List.all_eq_true.mp h2 c hc)⟩
/-- a sign of a text -/
theorem sign_at {n : Nat} {x : Str} (hx : Ok8 n x) {i : Int} (h0 : 0 ≤ i) (h1 : i < x.length) : ∃ c, atI x.cps.toList i = some c ∧ c < 16 ^ 8 := by
  obtain ⟨k, rfl⟩ := Int.eq_ofNat_of_zero_le h0
  have hk : k < x.cps.toList.length := by
    have : k < x.length := by omega
    rw [Array.length_toList]
    exact this
  exact ⟨x.cps.toList[k], at_nat (List.getElem?_eq_getElem hk), hx.2 _ (List.getElem_mem hk)⟩
section
variable {X : Cx} {Tb : List Addr} {δ : Dl} {e : Expr} {pos p py : Pos} {P : D → Prop} {x y : Str} {fA : Addr} {fd : FuncData} {k : Nat} {ps : List Str}
/-- _law_take(feed, e) -/
theorem wpE_take (j : Nat) (F : FnOk X.prog X.w X.K X.mg X.base CX0 k fA fd ps (spD Tb 1 1 preT postT)) (hr : Room k X.A) (hm : X.mg x = some (.ref fA)) (hk : PySem.W.keepIn X.K (.ref fA) = true) (hb : Binds X.K fd ps [])
    (hj : δ[j]? = some (some (.own .feed))) (h : wpE X Tb e δ fun d => ∃ m : Int, d = .int m ∧ 0 < m ∧ m < 1073741824 ∧ ∀ z, 0 ≤ z → z < m → P (.int z)) (hN : X.N[j]? = some y := by rfl)
    (hv : Vis X.env.scope y := by first | exact Or.inl rfl | exact Or.inr (Or.inl rfl) | exact Or.inr (Or.inr rfl)) (hd1 : (y == ("__debug__" : Str)) = false := by decide) (hd2 : (y == ("__classdict__" : Str)) = false := by decide)
    (hg : Gl X x := by rfl) (hdb : (x == ("__debug__" : Str)) = false := by decide) (he : starEach [.Name y py, e] X.env = (false, eval (.Name y py) X.env) :: starEach [e] X.env := by rfl) (hpl : (backTo pos (starEach [e] X.env)).any (·.1) = false := by rfl)
    (he2 : starEach [e] X.env = (false, eval e X.env) :: starEach [] X.env := by rfl) :
    wpE X Tb (.Call (.Name x p) [.Name y py, e] [] pos) δ P :=
  wpE_callF j F hr hm hk hb hj (wpA_cons (wpE_mono h fun d h => by
    obtain ⟨m, rfl, m0, m1, hz⟩ := h
    exact wpA_nil ⟨rfl, ⟨m, rfl, m0, m1⟩, fun d ⟨m', z, e1, e2, z0, z1⟩ => by
      cases e1
      rw [e2]
      exact hz z z0 z1⟩) he2) hN hv hd1 hd2 hg hdb he hpl
abbrev preP : List D → Prop := fun ds => ∃ xs : List D, ds = [.list xs] ∧ xs ≠ [] ∧ xs.length < 1073741824
abbrev postP : List D → D → Prop := fun ds d => ∃ xs : List D, ds = [.list xs] ∧ d ∈ xs
/-- _law_pick(feed, e) -/
theorem wpE_pick (j : Nat) (F : FnOk X.prog X.w X.K X.mg X.base CX0 k fA fd ps (spD Tb 1 1 preP postP)) (hr : Room k X.A) (hm : X.mg x = some (.ref fA)) (hk : PySem.W.keepIn X.K (.ref fA) = true) (hb : Binds X.K fd ps [])
    (hj : δ[j]? = some (some (.own .feed))) (h : wpE X Tb e δ fun d => ∃ xs : List D, d = .list xs ∧ xs ≠ [] ∧ xs.length < 1073741824 ∧ ∀ z ∈ xs, P z) (hN : X.N[j]? = some y := by rfl)
    (hv : Vis X.env.scope y := by first | exact Or.inl rfl | exact Or.inr (Or.inl rfl) | exact Or.inr (Or.inr rfl)) (hd1 : (y == ("__debug__" : Str)) = false := by decide) (hd2 : (y == ("__classdict__" : Str)) = false := by decide)
    (hg : Gl X x := by rfl) (hdb : (x == ("__debug__" : Str)) = false := by decide) (he : starEach [.Name y py, e] X.env = (false, eval (.Name y py) X.env) :: starEach [e] X.env := by rfl) (hpl : (backTo pos (starEach [e] X.env)).any (·.1) = false := by rfl)
    (he2 : starEach [e] X.env = (false, eval e X.env) :: starEach [] X.env := by rfl) :
    wpE X Tb (.Call (.Name x p) [.Name y py, e] [] pos) δ P :=
  wpE_callF j F hr hm hk hb hj (wpA_cons (wpE_mono h fun d h => by
    obtain ⟨xs, rfl, m0, m1, hz⟩ := h
    exact wpA_nil ⟨rfl, ⟨xs, rfl, m0, m1⟩, fun d ⟨ys, e1, e2⟩ => by
      cases e1
      exact hz d e2⟩) he2) hN hv hd1 hd2 hg hdb he hpl
end
/-- what a draw from the next list may be -/
theorem pick_get {xs : List D} {z : Int} (h0 : 0 ≤ z) (h1 : z < xs.length) : ∃ d, atI xs z = some d ∧ d ∈ xs := by
  obtain ⟨k, rfl⟩ := Int.eq_ofNat_of_zero_le h0
  have hk : k < xs.length := by omega
  exact ⟨xs[k], at_nat (List.getElem?_eq_getElem hk), List.getElem_mem hk⟩
end DL

set_option Elab.async false
set_option linter.all false
set_option maxRecDepth 100000
set_option maxHeartbeats 2000000
/-! DL18: signs, isinstance, slices of tuples, a new feed. -/
namespace DL
open PySem PySem.Spec L2
section
variable {X : Cx} {Tb : List Addr} {δ : Dl} {a b c e o i : Expr} {es eks : List Expr} {pos pos' p p2 pI pT pF py : Pos} {P P' : D → Prop} {st : Stmt} {sts : List Stmt} {R R' : Rs}
theorem wpE_neg (h : wpE X Tb a δ fun d => ∃ k, d = .int k ∧ P (.int (-k))) : wpE X Tb (.UnaryOp .USub a pos) δ P := fun B O0 M Lk σ τ H I Q q =>
  sem_e (pe_un un_neg pe_sem) (h B O0 M Lk σ τ H I _ fun v d H' J h3 => by
    obtain ⟨k, rfl, h3⟩ := h3
    obtain ⟨O', J'⟩ := J
    obtain ⟨J1, rk⟩ := J'.pop1
    exact ⟨k, rk.int', q _ _ H' ⟨O', J1.push (.int _)⟩ h3⟩)
/-- the class of a value that shows d -/
def tyD : D → String
  | .none => "NoneType"
  | .bool _ => "bool"
  | .int _ => "int"
  | .str _ => "str"
  | .list _ => "list"
  | .tuple _ => "tuple"
  | .dict ks => if isM ks = true then "?" else "dict"
theorem tyD_ins (r : List (D × D)) : tyD (.dict ((.none, .int badI) :: r)) = "?" := by
  unfold tyD
  exact if_pos (isM_ins r)
theorem tyD_dict {ks : List (D × D)} (h : isM ks = false) : tyD (.dict ks) = "dict" := by
  show (if isM ks = true then _ else _) = _
  rw [h]
  rfl
theorem tyD_no {ks : List (D × D)} (h : tyD (.dict ks) ≠ "?") : tyD (.dict ks) = "dict" := by
  cases hm : isM ks with
  | false => exact tyD_dict hm
  | true =>
    refine absurd ?_ h
    show (if isM ks = true then _ else _) = _
    rw [hm]
    rfl
theorem kit_no {T : String} {k : Bool} (hT : T ≠ "?") : kitB "?" T ≠ some k := by
  unfold kitB
  rw [if_neg (fun z => hT (by have := eq_of_beq z; cases this; rfl))]
  split
  · exact fun z => nomatch (show Option.map _ (PySem.fastBuiltinMro "?") = some k from z)
  · exact fun z => nomatch z
theorem ty_of {O : List Addr} {H : Hp} {v : V} {d : D} (r : Rp (vis O H) v d) (hd : tyD d ≠ "?") : TyX X.K H v (.type (tyD d)) := by
  cases r with
  | non => exact .base .non
  | bl b => exact .base (.bl b)
  | int i => exact .base (.int i)
  | str x => exact .base (.str x)
  | lst h _ => exact .base (.lst (vis_some h).2)
  | tup h _ => exact .base (.tup (vis_some h).2)
  | ins _ _ _ => exact absurd (tyD_ins _) hd
  | @dic a kvs ks h _ _ =>
    have e : tyD (.dict ks) = "dict" := by
      cases hm : isM ks with
      | false => exact tyD_dict hm
      | true =>
        refine absurd ?_ hd
        show (if isM ks = true then _ else _) = _
        rw [hm]
        rfl
    rw [e]
    rcases h with h | ⟨o, h⟩
    · exact .base (.dK (vis_some h).2)
    · exact .fDict (vis_some h).2
/-- isinstance(e, T), T a built-in class -/
theorem wpE_isi {x : Str} {T : String} (hm : X.mg "isinstance" = none) (hmT : X.mg x = none) (hbT : bootBuiltins x = some (.type T)) (h : wpE X Tb e δ fun d => ∃ k, kitB (tyD d) T = some k ∧ P (.bool k)) (hg : Gl X "isinstance" := by rfl) (hgT : Gl X x := by rfl) (hn : x ≠ "__name__" := by decide) (hd : (x == ("__debug__" : Str)) = false := by decide) (hT : T ≠ "?" := by decide)
    (he : starEach [e, .Name x py] X.env = (false, eval e X.env) :: starEach [.Name x py] X.env := by rfl) (hpl : (backTo pos (starEach [.Name x py] X.env)).any (·.1) = false := by rfl) (he2 : starEach [.Name x py] X.env = (false, eval (.Name x py) X.env) :: starEach [] X.env := by rfl) : wpE X Tb (.Call (.Name "isinstance" p) [e, .Name x py] [] pos) δ P := fun B O0 M Lk σ τ H I Q q =>
  sem_e (pe_callB call_isi hg hm (by decide +kernel) (pa_cons pe_sem (pa_cons (pe_bltn (v := .ty T) hgT hmT hbT rfl hn hd) pa_nil he2) he) (by decide) (by decide) he hpl) (h B O0 M Lk σ τ H I _ fun v d H' J h3 => by
    obtain ⟨k, hk, h3⟩ := h3
    obtain ⟨O', J'⟩ := J
    obtain ⟨J1, rv⟩ := J'.pop1
    exact ⟨v, .ty T, .type (tyD d), .type T, k, rfl, .ty T, ty_of rv (fun z => kit_no hT (by rw [z] at hk; exact hk)), kit_ty hk, q _ _ H' ⟨O', J1.push (.bl k)⟩ h3⟩)
theorem take_cut {xs : List V} {k : Nat} : cutV xs none (some (k : Int)) = xs.take k := by
  unfold cutV
  rw [show HT.sIx xs.length 0 none = 0 from HT.sIx_none .., show HT.sIx xs.length xs.length (some (k : Int)) = min k xs.length from HT.sIx_nat ..]
  rw [List.drop_zero, Nat.sub_zero]
  by_cases h : k ≤ xs.length
  · rw [Nat.min_eq_left h]
  · rw [Nat.min_eq_right (by omega), List.take_length, List.take_of_length_le (by omega)]
theorem drop_cut {xs : List V} {k : Nat} : cutV xs (some (k : Int)) none = xs.drop k := by
  unfold cutV
  rw [show HT.sIx xs.length 0 (some (k : Int)) = min k xs.length from HT.sIx_nat .., show HT.sIx xs.length xs.length none = xs.length from HT.sIx_none ..]
  by_cases h : k ≤ xs.length
  · rw [Nat.min_eq_left h, List.take_of_length_le (by rw [List.length_drop]; exact Nat.le_refl _)]
  · rw [Nat.min_eq_right (by omega), Nat.sub_self, List.take_zero, List.drop_of_length_le (by omega)]
/-- a[:k], a tuple -/
theorem wpE_takeT (h : wpE X Tb a δ fun d => ∃ ds, d = .tuple ds ∧ wpE X Tb b δ fun n => ∃ k : Nat, n = .int (k : Nat) ∧ k < ds.length ∧ P (.tuple (ds.take k))) : wpE X Tb (.Subscript a (.Slice none (some b) none p2) pos) δ P := fun B O0 M Lk σ τ H I Q q =>
  sem_e (pe_slice sl_tup pe_sem po_none (po_some pe_sem)) (h B O0 M Lk σ τ H I _ fun x d1 H1 I1 h1 => by
    obtain ⟨ds, rfl, h1⟩ := h1
    refine h1 B O0 M Lk σ _ H1 I1 _ fun y d2 H2 I2 h2 => ?_
    obtain ⟨k, rfl, hk, h2⟩ := h2
    obtain ⟨O, J⟩ := I2
    obtain ⟨J0, rx, ry⟩ := J.pop2
    obtain ⟨ad, xs, rfl, ha, rxs⟩ := rx.tuple'
    refine ⟨(k : Nat), ry.int', ad, xs, rfl, .inl (.inl (vis_some ha).2), fun z => ?_, fun p hp => ?_⟩
    · have := z.2
      rw [show HT.sIx xs.length xs.length (some (k : Int)) = min k xs.length from HT.sIx_nat ..] at this
      rw [← rxs.length] at hk
      omega
    · rw [take_cut]
      exact q _ _ _ ⟨O, J0.newTup (rxs.take k) hp⟩ h2)
/-- a[k:], a tuple -/
theorem wpE_dropT (h : wpE X Tb a δ fun d => ∃ ds, d = .tuple ds ∧ wpE X Tb b δ fun n => ∃ k : Nat, n = .int (k : Nat) ∧ 0 < k ∧ ds ≠ [] ∧ P (.tuple (ds.drop k))) : wpE X Tb (.Subscript a (.Slice (some b) none none p2) pos) δ P := fun B O0 M Lk σ τ H I Q q =>
  sem_e (pe_slice sl_tup pe_sem (po_some pe_sem) po_none) (h B O0 M Lk σ τ H I _ fun x d1 H1 I1 h1 => by
    obtain ⟨ds, rfl, h1⟩ := h1
    refine h1 B O0 M Lk σ _ H1 I1 _ fun y d2 H2 I2 h2 => ?_
    obtain ⟨k, rfl, hk, hne, h2⟩ := h2
    obtain ⟨O, J⟩ := I2
    obtain ⟨J0, rx, ry⟩ := J.pop2
    obtain ⟨ad, xs, rfl, ha, rxs⟩ := rx.tuple'
    have hl : 0 < xs.length := by rw [rxs.length]; exact List.length_pos_iff.mpr hne
    refine ⟨(k : Nat), ry.int', ad, xs, rfl, .inl (.inl (vis_some ha).2), fun z => ?_, fun p hp => ?_⟩
    · have := z.1
      rw [show HT.sIx xs.length 0 (some (k : Int)) = min k xs.length from HT.sIx_nat ..] at this
      omega
    · rw [drop_cut]
      exact q _ _ _ ⟨O, J0.newTup (rxs.drop k) hp⟩ h2)
theorem AtO.ownF {G : Glo} {B : Hp} {O0 M O : List Addr} {Lk : Lks} {σ : L2.St} {τ : List (V × D)} {H : Hp} {fa fb : Int} {q : Addr} {j : Nat} (I : AtO G B O0 M Lk O δ σ τ H) (hq : H q = none) :
    AtO G B O0 M Lk (q :: O) (δ.set j (some (.own .feed))) (σ.set j (some (.ref q))) τ (upd H q (.lst [.int fa, .int fb])) := by
  obtain ⟨J, hn⟩ := I.alloc (o := .lst [.int fa, .int fb]) hq
  have hB : B q = none := by
    cases e : B q with
    | none => rfl
    | some u =>
      have hM : q ∉ M := fun z => hn (I.sub0 _ (I.subM _ z))
      rcases I.gr q u hM e with h | ⟨_, _, _, h, _⟩ | ⟨_, _, h⟩ <;> rw [hq] at h <;> cases h
  have ve : vis (q :: O) (upd H q (.lst [.int fa, .int fb])) = vis O H := by
    funext a
    by_cases ha : a = q
    · subst ha
      rw [vis_in List.mem_cons_self, vis_out hn, hq]
    · by_cases ho : a ∈ O
      · rw [vis_in (List.mem_cons_of_mem _ ho), vis_in ho]
      · rw [vis_out (by simp [ha, ho]), vis_out ho, upd_ne ha]
  have hlen : (δ.set j (some (.own .feed))).length = (σ.set j (some (.ref q))).length := by rw [List.length_set, List.length_set]; exact I.len
  have oldref : ∀ (i : Nat) (o : OD), δ[i]? = some (some (.own o)) → σ[i]? ≠ some (some (.ref q)) := fun i o e z => by
    obtain ⟨v, h1, p, rfl, h2, _⟩ := I.slots i _ e
    rw [z] at h1
    have : V.ref q = V.ref p := Option.some.inj (Option.some.inj h1)
    exact hn (by rw [V.ref.inj this]; exact h2)
  refine ⟨fun p hp => List.mem_cons_of_mem _ (I.sub0 p hp), I.subM, I.o0, fun p hp => ?_, fun p hp => ?_, J.gr, fun p hp => ?_, I.hidT, J.feeds, J.tabs, fun p hp => by rw [ve]; exact I.tmp p hp, hlen, fun i sl e => ?_, fun i k o o' p e1 e2 e3 e4 => ?_, fun p hp => ⟨fun z => (List.mem_cons.mp z).elim (fun z => by have h := (I.lck p hp).2; rw [z, hq] at h; cases h) (I.lck p hp).1, by rw [upd_ne fun z => by have h := (I.lck p hp).2; rw [z, hq] at h; cases h]; exact (I.lck p hp).2⟩, J.nof, I.inn.setO rfl (I.innN hn) I.len⟩
  · rcases List.mem_cons.mp hp with e | hp
    · exact .inr (by rw [e]; exact hB)
    · exact I.new p hp
  · rcases List.mem_cons.mp hp with e | hp
    · rw [e, upd_same]
      exact fun z => nomatch z
    · exact J.live p hp
  · obtain ⟨h1, h2, h3, h4⟩ := I.hid p hp
    have np : p.1 ≠ q := fun z => hn (by rw [← z]; exact h2)
    refine ⟨by rw [upd_ne np]; exact h1, List.mem_cons_of_mem _ h2, h3, fun i o e => ?_⟩
    by_cases hj : j = i
    · subst hj
      have hlt : j < δ.length := by
        have := (List.getElem?_eq_some_iff.mp e).1
        rwa [List.length_set] at this
      rw [List.getElem?_set_self (by rw [← I.len]; exact hlt)]
      exact fun z => np (V.ref.inj (Option.some.inj (Option.some.inj z))).symm
    · rw [List.getElem?_set_ne hj] at e ⊢
      exact h4 i o e
  · by_cases hj : j = i
    · subst hj
      have hlt : j < δ.length := by
        have := (List.getElem?_eq_some_iff.mp e).1
        rwa [List.length_set] at this
      rw [List.getElem?_set_self hlt] at e
      cases e
      exact ⟨.ref q, by rw [List.getElem?_set_self (by rw [← I.len]; exact hlt)], q, rfl, List.mem_cons_self, .inr hB, .inl rfl, fa, fb, upd_same⟩
    · rw [List.getElem?_set_ne hj] at e
      obtain ⟨u, h1, h2⟩ := I.slots i sl e
      refine ⟨u, by rw [List.getElem?_set_ne hj]; exact h1, ?_⟩
      cases sl with
      | d d =>
        show Rp (vis (q :: O) _) u d
        rw [ve]
        exact h2
      | scr ns =>
        obtain ⟨a, e2, h2⟩ := h2
        refine ⟨a, e2, ?_⟩
        rw [ve]
        exact h2
      | own o =>
        obtain ⟨p, e2, hp, hb, hb2, h2⟩ := h2
        refine ⟨p, e2, List.mem_cons_of_mem _ hp, hb, hb2, ?_⟩
        have np : p ≠ q := fun z => hn (by rw [← z]; exact hp)
        cases o with
        | feed => obtain ⟨a, b, h2⟩ := h2; exact ⟨a, b, by rw [upd_ne np]; exact h2⟩
        | lst ds => obtain ⟨ys, h2, h3⟩ := h2; exact ⟨ys, by rw [upd_ne np]; exact h2, by rw [ve]; exact h3⟩
        | dic ks => obtain ⟨ys, h2, h4, h3⟩ := h2; exact ⟨ys, by rw [upd_ne np]; exact h2, h4, by rw [ve]; exact h3⟩
        | lss qs => exact ⟨by rw [upd_ne np]; exact h2.1, fun x hx => ⟨List.mem_cons_of_mem _ (h2.2 x hx).1, by
            obtain ⟨ys, h3, h4⟩ := (h2.2 x hx).2
            exact ⟨ys, by rw [upd_ne fun z => hn (by rw [← z]; exact (h2.2 x hx).1)]; exact h3, by rw [ve]; exact h4⟩⟩⟩
  · by_cases h1 : j = i
    · by_cases h2 : j = k
      · exact h1.symm.trans h2
      · subst h1
        have hlt : j < δ.length := by
          have := (List.getElem?_eq_some_iff.mp e1).1
          rwa [List.length_set] at this
        rw [List.getElem?_set_self (by rw [← I.len]; exact hlt)] at e3
        have ep : q = p := V.ref.inj (Option.some.inj (Option.some.inj e3))
        rw [List.getElem?_set_ne h2] at e2 e4
        exact (oldref k o' e2 (by rw [ep]; exact e4)).elim
    · rw [List.getElem?_set_ne h1] at e1 e3
      by_cases h2 : j = k
      · subst h2
        have hlt : j < δ.length := by
          have := (List.getElem?_eq_some_iff.mp e2).1
          rwa [List.length_set] at this
        rw [List.getElem?_set_self (by rw [← I.len]; exact hlt)] at e4
        have ep : q = p := V.ref.inj (Option.some.inj (Option.some.inj e4))
        exact (oldref i o e1 (by rw [ep]; exact e3)).elim
      · rw [List.getElem?_set_ne h2] at e2 e4
        exact I.sep i k o o' p e1 e2 e3 e4

/-- name = _law_feed(script, k) -/
theorem wpS_feed {x xF y : Str} {px : Pos} {fF : Addr} {fdF : FuncData} {kF : Nat} {psF : List Str} {ns : List Int} (j jx : Nat) (FF : FnOk X.prog X.w X.K X.mg X.base CX0 kF fF fdF psF (spFeed X.K)) (hrF : Room kF X.A) (hmF : X.mg xF = some (.ref fF)) (hkF : PySem.W.keepIn X.K (.ref fF) = true) (hbF : Binds X.K fdF psF [])
    (hj : δ[j]? = some (some (.scr ns))) (h : wpA X Tb eks δ fun ds => ∃ i : Nat, ds = [.int (i : Nat)] ∧ R.nx (δ.set jx (some (.own .feed)))) (hNd : X.N.Nodup) (hix : X.N[jx]? = some x := by rfl) (hx : Loc X.env.scope x := by first | exact Or.inl rfl | exact Or.inr rfl)
    (hN : X.N[j]? = some y := by rfl) (hv : Vis X.env.scope y := by first | exact Or.inl rfl | exact Or.inr (Or.inl rfl) | exact Or.inr (Or.inr rfl)) (h1 : (y == ("__debug__" : Str)) = false := by decide) (h2 : (y == ("__classdict__" : Str)) = false := by decide)
    (hgF : Gl X xF := by rfl) (hdF : (xF == ("__debug__" : Str)) = false := by decide)
    (heF : starEach (.Name y py :: eks) X.env = (false, eval (.Name y py) X.env) :: starEach eks X.env := by rfl) (hplF : (backTo p (starEach eks X.env)).any (·.1) = false := by rfl)
    (hs : swapsWith (.Call (.Name xF pF) (.Name y py :: eks) [] p) (some (.Name x px)) pos.line X.env = pure false := by rfl) (hf : X.fn x = true ∨ X.env.scope.names.lookup x = some .local := by first | exact .inl rfl | exact .inr rfl) :
    wpS X Tb (.Assign [.Name x px] (.Call (.Name xF pF) (.Name y py :: eks) [] p) pos) δ R := fun B O0 M Lk σ τ H I => by
  refine sem_s (ps_set hNd hix hx (pe_call FF hrF hgF hmF hkF hbF .nil (pass0 (X := X)) (pa_cons (pe_var hN hv h1 h2) pa_sem heF) hdF heF hplF) hs hf) ?_
  obtain ⟨O, J⟩ := id I
  obtain ⟨ad, e0, hS⟩ := J.scr hj
  refine ⟨.ref ad, e0, h B O0 M Lk σ τ H I _ fun ps H1 J1 h1 => ?_⟩
  obtain ⟨i, hds, h2⟩ := h1
  obtain ⟨O1, J1⟩ := J1
  obtain ⟨J1, r1⟩ := J1.popA
  rw [hds] at r1
  obtain ⟨a1, e1, hS1⟩ := J1.scr hj
  have ea : ad = a1 := V.ref.inj (Option.some.inj (Option.some.inj (e0.symm.trans e1)))
  subst ea
  have e2 : ps.map (·.1) = [V.int (i : Nat)] := by
    obtain ⟨v, ev, rv⟩ := r1.one'
    rw [ev, rv.int']
  refine ⟨ad, ns, i, ?_, hS1, fun q x z hq => ⟨_, ⟨_, J1.ownF (j := jx) hq⟩, h2⟩⟩
  show (.ref ad :: ps.map (·.1)) ++ [] = _
  rw [e2]
  rfl
end
end DL

set_option Elab.async false
set_option linter.all false
set_option maxRecDepth 100000
set_option maxHeartbeats 2000000
/-! DL19: data that repr writes out. -/
namespace DL
open PySem PySem.Spec L2
structure Sm (p n : Nat) (d : D) : Prop where
  sh : d.showable = true
  lv : d.leavesShort 13 = true
  dp : d.depth ≤ p
  wt : d.weight ≤ n
structure SmA (p n : Nat) (ds : List D) : Prop where
  sh : PyData.showableAll ds = true
  lv : PyData.leavesShortAll 13 ds = true
  dp : PyData.depthAll ds ≤ p
  wt : PyData.weightAll ds ≤ n
structure SmK (p n : Nat) (ds : List (D × D)) : Prop where
  sh : PyData.showableKv ds = true
  lv : PyData.leavesShortKv 13 ds = true
  dp : PyData.depthKv ds ≤ p
  wt : PyData.weightKv ds ≤ n
theorem Sm.mono {p n m : Nat} {d : D} (h : Sm p n d) (k : n ≤ m) : Sm p m d := ⟨h.sh, h.lv, h.dp, Nat.le_trans h.wt k⟩
theorem log_lt {n k : Nat} (h : n < 2 ^ k) (hk : 0 < k) : n.log2 < k := by
  by_cases e : n = 0
  · rw [e]
    exact hk
  · exact (Nat.log2_lt e).mpr h
theorem sm_int {i : Int} (p : Nat) (h : i.natAbs < 10 ^ 12) : Sm p 40 (.int i) := by
  have h40 : i.natAbs < 2 ^ 40 := Nat.lt_of_lt_of_le h (by decide)
  refine ⟨?_, ?_, ?_, ?_⟩
  · simp only [PyData.showable]
    exact decide_eq_true (Nat.lt_trans (log_lt h40 (by decide)) (by decide))
  · simp only [PyData.leavesShort]
    exact decide_eq_true (PyData.shown_int_le h)
  · simp only [PyData.depth]
    exact Nat.zero_le _
  · simp only [PyData.weight]
    split
    · exact Nat.zero_le _
    · exact log_lt h40 (by decide)
theorem sm_none (p : Nat) : Sm p 0 .none := ⟨rfl, rfl, by simp [PyData.depth], by simp [PyData.weight]⟩
theorem sm_bool (p : Nat) (b : Bool) : Sm p 0 (.bool b) := ⟨rfl, rfl, by simp [PyData.depth], by simp [PyData.weight]⟩
theorem sm_str {n : Nat} {x : Str} (p : Nat) (h : Ok8 n x) : Sm p n (.str x) := by
  refine ⟨rfl, ?_, by simp [PyData.depth], by simp only [PyData.weight]; exact h.1⟩
  simp only [PyData.leavesShort]
  exact List.all_eq_true.mpr fun c hc => decide_eq_true (h.2 c hc)
theorem smA_nil (p : Nat) : SmA p 0 [] := ⟨rfl, rfl, by simp [PyData.depthAll], by simp [PyData.weightAll]⟩
theorem smA_cons {p a b : Nat} {d : D} {ds : List D} (h : Sm p a d) (r : SmA p b ds) : SmA p (a + 1 + b) (d :: ds) := by
  refine ⟨?_, ?_, ?_, ?_⟩
  · simp only [PyData.showableAll, h.sh, r.sh, Bool.and_self]
  · simp only [PyData.leavesShortAll, h.lv, r.lv, Bool.and_self]
  · simp only [PyData.depthAll]
    exact Nat.max_le.mpr ⟨h.dp, r.dp⟩
  · simp only [PyData.weightAll]
    have := h.wt
    have := r.wt
    omega
theorem smK_nil (p : Nat) : SmK p 0 [] := ⟨rfl, rfl, by simp [PyData.depthKv], by simp [PyData.weightKv]⟩
theorem smK_cons {p a b c : Nat} {k d : D} {ds : List (D × D)} (g : Sm p a k) (h : Sm p b d) (r : SmK p c ds) : SmK p (a + b + 2 + c) ((k, d) :: ds) := by
  refine ⟨?_, ?_, ?_, ?_⟩
  · simp only [PyData.showableKv, g.sh, h.sh, r.sh, Bool.and_self]
  · simp only [PyData.leavesShortKv, g.lv, h.lv, r.lv, Bool.and_self]
  · simp only [PyData.depthKv]
    exact Nat.max_le.mpr ⟨Nat.max_le.mpr ⟨g.dp, h.dp⟩, r.dp⟩
  · simp only [PyData.weightKv]
    have := g.wt
    have := h.wt
    have := r.wt
    omega
theorem sm_tuple {p n : Nat} {ds : List D} (h : SmA p n ds) : Sm (p + 1) n (.tuple ds) := ⟨by simp only [PyData.showable]; exact h.sh, by simp only [PyData.leavesShort]; exact h.lv, by simp only [PyData.depth]; have := h.dp; omega, by simp only [PyData.weight]; exact h.wt⟩
theorem sm_list {p n : Nat} {ds : List D} (h : SmA p n ds) : Sm (p + 1) n (.list ds) := ⟨by simp only [PyData.showable]; exact h.sh, by simp only [PyData.leavesShort]; exact h.lv, by simp only [PyData.depth]; have := h.dp; omega, by simp only [PyData.weight]; exact h.wt⟩
theorem sm_dict {p n : Nat} {ds : List (D × D)} (h : SmK p n ds) : Sm (p + 1) n (.dict ds) := ⟨by simp only [PyData.showable]; exact h.sh, by simp only [PyData.leavesShort]; exact h.lv, by simp only [PyData.depth]; have := h.dp; omega, by simp only [PyData.weight]; exact h.wt⟩
theorem Sm.up {p q n : Nat} {d : D} (h : Sm p n d) (k : p ≤ q) : Sm q n d := ⟨h.sh, h.lv, Nat.le_trans h.dp k, h.wt⟩
theorem r_repr {p n : Nat} {ds : List D} {P : D → Prop} (h : Sm p n (.list ds)) (hp : p ≤ 64) (hn : n ≤ 2 ^ 20) (q : P (.str (PyData.shown (.list ds)))) : reprR [.list ds] P :=
  ⟨⟨h.sh, Nat.le_trans h.dp hp, PyData.shown_fits (B := 13) (by decide) (by decide) h.lv (Nat.le_trans h.wt hn)⟩, q⟩
end DL

set_option Elab.async false
set_option linter.all false
set_option maxRecDepth 100000
set_option maxHeartbeats 2000000
/-! DL20: results that are new lists; enumerate; reading a list of one's own. -/
namespace DL
open PySem PySem.Spec L2
section
variable {X : Cx} {Tb : List Addr} {δ : Dl} {tg a b c e o i iter elt : Expr} {es : List Expr} {pos pos' p : Pos} {st : Stmt} {sts : List Stmt} {R R' : Rs}
/-- a hidden list becomes the frame's own -/
theorem AtO.ownH {G : Glo} {B : Hp} {O0 M O : List Addr} {L1 : List (Addr × Obj × HO)} {hs : List (Addr × HO)} {σ : L2.St} {τ : List (V × D)} {H : Hp} {xs : List V} {ds : List D} {q : Addr} {j : Nat} (I : AtO G B O0 M (L1, (q, .lst xs) :: hs) O δ σ τ H) (noh : ∀ p ∈ hs, p.1 ≠ q) (r : RpA (vis O H) xs ds) :
    AtO G B O0 M (L1, hs) O (δ.set j (some (.own (.lst ds)))) (σ.set j (some (.ref q))) τ H := by
  obtain ⟨hx, hO, hB, old⟩ := I.hid _ List.mem_cons_self
  have hx : H q = some (.lst xs) := hx
  have hB : B q = none := hB
  refine ⟨I.sub0, I.subM, I.o0, I.new, I.live, I.gr, fun p hp => ?_, fun p hp => I.hidT p (List.mem_cons_of_mem _ hp), I.feeds, I.tabs, I.tmp, by rw [List.length_set, List.length_set]; exact I.len, fun i sl e => ?_, fun i k o o' p e1 e2 e3 e4 => ?_, I.lck, I.nof, (I.inn.less fun p hp => List.mem_cons_of_mem _ hp).setO rfl (fun i o e hx => I.inn.hid i o e q hx _ List.mem_cons_self rfl) I.len⟩
  · obtain ⟨h1, h2, h3, h4⟩ := I.hid p (List.mem_cons_of_mem _ hp)
    refine ⟨h1, h2, h3, fun i o e => ?_⟩
    by_cases hj : j = i
    · subst hj
      have hlt : j < δ.length := by
        have := (List.getElem?_eq_some_iff.mp e).1
        rwa [List.length_set] at this
      rw [List.getElem?_set_self (by rw [← I.len]; exact hlt)]
      exact fun z => noh p hp (V.ref.inj (Option.some.inj (Option.some.inj z))).symm
    · rw [List.getElem?_set_ne hj] at e ⊢
      exact h4 i o e
  · by_cases hj : j = i
    · subst hj
      have hlt : j < δ.length := by
        have := (List.getElem?_eq_some_iff.mp e).1
        rwa [List.length_set] at this
      rw [List.getElem?_set_self hlt] at e
      cases e
      exact ⟨.ref q, by rw [List.getElem?_set_self (by rw [← I.len]; exact hlt)], q, rfl, hO, .inr hB, .inr hB, xs, hx, r⟩
    · rw [List.getElem?_set_ne hj] at e
      obtain ⟨u, h1, h2⟩ := I.slots i sl e
      exact ⟨u, by rw [List.getElem?_set_ne hj]; exact h1, h2⟩
  · by_cases h1 : j = i
    · by_cases h2 : j = k
      · exact h1.symm.trans h2
      · subst h1
        have hlt : j < δ.length := by
          have := (List.getElem?_eq_some_iff.mp e1).1
          rwa [List.length_set] at this
        rw [List.getElem?_set_self (by rw [← I.len]; exact hlt)] at e3
        have ep : q = p := V.ref.inj (Option.some.inj (Option.some.inj e3))
        rw [List.getElem?_set_ne h2] at e2 e4
        exact (old k o' e2 (by rw [ep]; exact e4)).elim
    · rw [List.getElem?_set_ne h1] at e1 e3
      by_cases h2 : j = k
      · subst h2
        have hlt : j < δ.length := by
          have := (List.getElem?_eq_some_iff.mp e2).1
          rwa [List.length_set] at this
        rw [List.getElem?_set_self (by rw [← I.len]; exact hlt)] at e4
        have ep : q = p := V.ref.inj (Option.some.inj (Option.some.inj e4))
        exact (old i o e1 (by rw [ep]; exact e3)).elim
      · rw [List.getElem?_set_ne h2] at e2 e4
        exact I.sep i k o o' p e1 e2 e3 e4
/-- what a call has made becomes the frame's own -/
theorem AtO.grown {G : Glo} {B : Hp} {O0 M O : List Addr} {Lk : Lks} {σ : L2.St} {τ : List (V × D)} {H H' : Hp} {xs : List V} {ds : List D} {q : Addr} {j : Nat} (I : AtO G B O0 M Lk O δ σ τ H) (g : Gr [] [] H H') (nf : Nf H H') (hq : H q = none) (hx : H' q = some (.lst xs)) (r : RpA (vis (q :: O) H') xs ds) :
    AtO G B O0 M Lk (q :: O) (δ.set j (some (.own (.lst ds)))) (σ.set j (some (.ref q))) τ H' := by
  obtain ⟨L1, hs⟩ := Lk
  obtain ⟨J, _, _⟩ := I.hide (ob := .lst xs) hq
  have noh : ∀ p ∈ hs, p.1 ≠ q := fun p hp z => by
    have := (I.hid p hp).1
    rw [z, hq] at this
    cases this
  have g2 : Gr [] [] (upd H q (.lst xs)) H' := fun a o ha e => by
    by_cases z : a = q
    · rw [z, upd_same] at e
      cases e
      rw [z]
      exact .inl hx
    · rw [upd_ne z] at e
      exact g a o ha e
  have nf2 : Nf (upd H q (.lst xs)) H' := fun a od u e => by
    by_cases z : a = q
    · rw [z, upd_same]
      exact fun w => nomatch w
    · rw [upd_ne z]
      exact nf a od u e
  exact (J.grow g2 (fun _ z => nomatch z) (fun _ z => nomatch z) (fun _ z => nomatch z) (fun _ z => nomatch z) nf2).ownH noh r
/-! ### promises of a new list -/
def spN (Tb : List Addr) (m n : Nat) (pre : List D → Prop) (post : List D → List D → Prop) : Sp := fun vs H Q _ => ∃ (O0 M : List Addr) (ws : List V) (ds : List D),
  vs = M.map V.ref ++ ws ∧ M.length = m ∧ (∀ p ∈ M, p ∈ O0) ∧ (∀ p ∈ O0, H p ≠ none) ∧ (∀ f ∈ M, FeedAt H f) ∧ (∀ P ∈ Tb, GxR.TabG H P) ∧ RpA (vis O0 H) ws ds ∧ ds.length = n ∧ pre ds ∧
  ∀ q xs rs H', Gr M [] H H' → Nf H H' → (∀ f ∈ M, FeedAt H' f) → H q = none → H' q = some (.lst xs) → RpA (vis (q :: O0) H') xs rs → post ds rs → Q (.ref q) H'
theorem spN_spD {P : Program} {w : World} {K : PySem.W.Frag} {mg : Str → Option Value} {base : Heap} {CX : CXT} {k m n : Nat} {f : Addr} {fd : FuncData} {ps : List Str} {pre : List D → Prop} {post : List D → List D → Prop} (F : FnOk P w K mg base CX k f fd ps (spN Tb m n pre post)) :
    FnOk P w K mg base CX k f fd ps (spD Tb m n pre fun ds d => ∃ rs, d = .list rs ∧ post ds rs) :=
  F.imp fun vs H Q E ⟨O0, M, ws, ds, h1, h2, h3, h4, h5, h6, h7, h8, h9, q⟩ => ⟨O0, M, ws, ds, h1, h2, h3, h4, h5, h6, h7, h8, h9, fun p xs rs H' g nf hf hp hx r hpost =>
    q _ _ H' g nf hf (.lst (by rw [vis_out fun z => h4 p z hp]; exact hx) (r.mono (vis_le fun a ha => List.mem_cons_of_mem _ ha))) ⟨rs, rfl, hpost⟩⟩
/-- e makes a new list, which nothing holds -/
def wpH (X : Cx) (Tb : List Addr) (e : Expr) (δ : Dl) (P : List D → Prop) : Prop := ∀ B O0 M Lk σ τ H, At (GX X Tb) B O0 M Lk δ σ τ H → ∀ Q : VK,
  (∀ O xs ds q H', AtO (GX X Tb) B O0 M (Lk.1, (q, .lst xs) :: Lk.2) O δ σ τ H' → (∀ p ∈ Lk.2, p.1 ≠ q) → RpA (vis O H') xs ds → P ds → Q (.ref q) H') → semE X e σ H Q
theorem wpH_F {P : List D → Prop} (h : wpF X Tb e δ P) : wpH X Tb e δ P := fun B O0 M Lk σ τ H I Q q => h B O0 M Lk σ τ H I Q fun O xs ds p H' J hp r k => by
  obtain ⟨J2, ve, _⟩ := J.hide (ob := .lst xs) hp
  refine q _ xs ds p _ J2 (fun r hr z => ?_) (by rw [ve]; exact r) k
  have := (J.hid r hr).1
  rw [z, hp] at this
  cases this
/-- a def of two statements: the second one returns a new list -/
theorem fn_okN {Pg : Program} {w : World} {K : PySem.W.Frag} {mg : Str → Option Value} {base : Heap} {x qual : Str} {st s1 : Stmt} {e : Expr} {rp : Pos} {f c : Addr} {fd : FuncData} {N ps : List Str} {k m n : Nat} {Tb : List Addr} {pre : List D → Prop} {post : List D → List D → Prop} (F : FunC K x qual st f c fd) (S : FnScope N ps (defScope st)) (hm : m ≤ 1) (hn : ps.length = m + n) (hd2 : defBody st = [s1, .Return (some e) rp])
    (hbody : ∀ (A : Around) (outer : List Env) (s : Shared) (H : Hp) (E : XK) (ds : List D), Room k (A.deeper (PyProof.Rows.envOfC qual (defScope st) s.heap.objs.size f (.ref c))) → ds.length = n → pre ds →
      wpS (cxOf CX0 Pg w K mg base N qual (defScope st) f (.ref c) A outer s H E).nox Tb s1 (startD m ds N) { nx := fun δ' => wpH (cxOf CX0 Pg w K mg base N qual (defScope st) f (.ref c) A outer s H E).nox Tb e δ' (post ds), rt := fun _ => False }) : FnOk Pg w K mg base CX0 (k + 1) f fd ps (spN Tb m n pre post) := by
  obtain ⟨oc, od, kV, doc, pm, an, ct, osl, rfl, lk, hcd⟩ := F.ex
  have hpl : ps.length ≤ N.length := by have := congrArg List.length S.pre; rw [List.length_take] at this; omega
  refine fn_of lk hcd S (fun vs H Q E h => ?_) fun A outer s H vs Q E hr hsp => ?_
  · obtain ⟨O0, M, ws, ds, rfl, hMl, _, _, _, _, r, hd, _⟩ := h
    rw [List.length_append, List.length_map, r.length, hMl, hd, hn]
  · obtain ⟨O0, M, ws, ds, rfl, hMl, h1, h2, h3, h4, r, hd, hp, q⟩ := hsp
    have hb := hbody A outer s H E ds hr hd hp
    subst hMl
    have I := at_start (G := ⟨K, Tb⟩) (N := N) hm h1 h2 h3 h4 r (by omega)
    rw [hd2]
    have hb1 := hb H O0 M ([], []) _ [] H I
    refine ⟨_, PSs.nox (pss_cons ps_sem (pss_one (ps_ret pe_sem))), semS_le ⟨fun σ' H' h => ?_, fun v H' h => ?_, fun _ _ h => ?_, fun _ _ h => ?_⟩ hb1⟩
    · obtain ⟨δ', J, h⟩ := h
      refine h H O0 M ([], []) σ' [] H' J _ fun O xs rs p H2 J2 noh rx hpost => ?_
      obtain ⟨hx, hO, hB, _⟩ := J2.hid _ List.mem_cons_self
      refine q p xs rs H2 J2.gr (fun a od u e => (J2.nof a od u e).resolve_right (fun z => nomatch z)) J2.feeds hB hx (rx.mono (vis_le fun a ha => ?_)) hpost
      rcases List.mem_cons.mp ha with e | ha
      · rw [e]; exact hO
      · exact J2.sub0 a ha
    · obtain ⟨d, J, h⟩ := h
      exact h.elim
    · obtain ⟨_, _, h⟩ := h
      exact h.elim
    · obtain ⟨_, _, h⟩ := h
      exact h.elim
/-- name = f(..), f with the promise of a new list -/
theorem wpS_callN {x xF : Str} {px pF : Pos} {fA : Addr} {fd : FuncData} {k n : Nat} {ps : List Str} {pre : List D → Prop} {post : List D → List D → Prop} (j : Nat) (F : FnOk X.prog X.w X.K X.mg X.base CX0 k fA fd ps (spN Tb 0 n pre post)) (hr : Room k X.A) (hm : X.mg xF = some (.ref fA)) (hk : PySem.W.keepIn X.K (.ref fA) = true) (hb : Binds X.K fd ps [])
    (h : wpA X Tb (e :: es) δ fun ds => ds.length = n ∧ pre ds ∧ ∀ rs, post ds rs → R.nx (δ.set j (some (.own (.lst rs))))) (hN : X.N.Nodup) (hi : X.N[j]? = some x := by rfl) (hx : Loc X.env.scope x := by first | exact Or.inl rfl | exact Or.inr rfl)
    (hg : Gl X xF := by rfl) (hdb : (xF == ("__debug__" : Str)) = false := by decide) (he : starEach (e :: es) X.env = (false, eval e X.env) :: starEach es X.env := by rfl) (hpl : (backTo p (starEach es X.env)).any (·.1) = false := by rfl)
    (hs : swapsWith (.Call (.Name xF pF) (e :: es) [] p) (some (.Name x px)) pos.line X.env = pure false := by rfl) (hf : X.fn x = true ∨ X.env.scope.names.lookup x = some .local := by first | exact .inl rfl | exact .inr rfl) :
    wpS X Tb (.Assign [.Name x px] (.Call (.Name xF pF) (e :: es) [] p) pos) δ R := fun B O0 M Lk σ τ H I =>
  sem_s (ps_set hN hi hx (pe_call F hr hg hm hk hb .nil (pass0 (X := X)) pa_sem hdb he hpl) hs hf) (h B O0 M Lk σ τ H I _ fun ps H1 J h1 => by
    obtain ⟨O, J⟩ := J
    obtain ⟨J0, r⟩ := J.popA
    obtain ⟨h1, h2, h3⟩ := h1
    exact ⟨O, [], ps.map (·.1), ps.map (·.2), List.append_nil _, rfl, (fun _ z => nomatch z), J.live, (fun _ z => nomatch z), J.tabs, r, h1, h2, fun q xs rs H' g nf _ hq hx rx hp => ⟨_, ⟨_, J0.grown (j := j) g nf hq hx rx⟩, h3 rs hp⟩⟩)
theorem lc_qH {scope : Scope} {P : D → Prop} {c : Option Expr} {x : Str} {wi : TI} (j : Nat) (hj : δ[j]? = some none)
    (hw : ∀ B O0 M Lk σ τ H, At (GX X Tb) B O0 M Lk δ σ τ H → ∀ R : It → Hp → Prop, (∀ J ds κ H', At (GX X Tb) B O0 M Lk δ σ (κ ++ τ) H' → IterJ (GX X Tb) J ds κ → LcG X Tb scope elt δ j c P ds → R J H') → wi σ H R)
    {B : Hp} {O0 M : List Addr} {Lk : Lks} {σ : L2.St} {τ : List (V × D)} {H : Hp} (I : At (GX X Tb) B O0 M Lk δ σ τ H) {Q : VK} (q : ∀ O xs ds q H', AtO (GX X Tb) B O0 M (Lk.1, (q, .lst xs) :: Lk.2) O δ σ τ H' → (∀ p ∈ Lk.2, p.1 ≠ q) → RpA (vis O H') xs ds → P (.list ds) → Q (.ref q) H') :
    tLc wi (gName j) (lcT X scope c) (fun σ H' Q => ∀ z H C cl fp, semE (blkX X z H scope C cl fp) elt σ H' Q) ([(x, j)].map (·.2)) σ H Q := by
  refine hw B O0 M Lk σ τ H I _ fun J ds κ H1 I1 it h1 => ?_
  obtain ⟨hlen, Iv, h0, hstep, hend⟩ := h1
  obtain ⟨O, I1⟩ := I1
  intro L hL
  obtain ⟨I2, ve, hBL⟩ := I1.hide (q := L) (ob := .lst []) hL
  have noh : ∀ p ∈ Lk.2, p.1 ≠ L := fun p hp z => by
    have := (I1.hid p hp).1
    rw [z, hL] at this
    cases this
  refine ⟨fun i m H => m = ds.length - i ∧ i ≤ ds.length ∧ ∃ ps : List (V × D), At (GX X Tb) B O0 M (Lk.1, (L, .lst (ps.map (·.1))) :: Lk.2) δ σ (ps ++ (κ ++ τ)) H ∧ ps.length ≤ i ∧ Iv i (ps.map (·.2)), ⟨_, rfl, Nat.zero_le _, [], ⟨_, I2⟩, Nat.le_refl _, h0⟩, fun i m H ⟨em, hi, ps, ⟨O, I3⟩, hal, hv⟩ => ?_⟩
  have itv := it B O0 M _ O δ σ (ps ++ (κ ++ τ)) H I3 (fun p hp => List.mem_append.mpr (.inr (List.mem_append.mpr (.inl hp)))) i
  by_cases hlt : i < ds.length
  · obtain ⟨go, yl⟩ := itv.1 hlt
    refine .inr ⟨go, fun H' => ∃ ps : List (V × D), At (GX X Tb) B O0 M (Lk.1, (L, .lst (ps.map (·.1))) :: Lk.2) δ σ (ps ++ (κ ++ τ)) H' ∧ ps.length ≤ i + 1 ∧ Iv (i + 1) (ps.map (·.2)), fun H' q1 => ⟨ds.length - (i + 1), by omega, rfl, hlt, q1⟩, fun v H' hy => ?_⟩
    obtain ⟨d, hd, I4⟩ := yl v H' hy
    obtain ⟨I5, rv⟩ := I4.pop1
    have ew : ∀ u, L2.wipe ((L2.wipe σ [j]).set j (some u)) [j] = L2.wipe σ [j] := fun u => by
      show ((σ.set j none).set j (some u)).set j none = σ.set j none
      rw [List.set_set, List.set_set]
    have eσ : ∀ u : Option V, List.set (L2.wipe σ (List.map (fun x => x.2) [(x, j)])) j u = σ.set j u := fun u => by
      show (σ.set j none).set j u = σ.set j u
      rw [List.set_set]
    refine ⟨ew v, ?_⟩
    rw [eσ]
    have I6 := I5.set (j := j) rv
    have back : ∀ {O : List Addr} {τ' : List (V × D)} {H4 : Hp}, AtO (GX X Tb) B O0 M (Lk.1, (L, .lst (ps.map (·.1))) :: Lk.2) O (δ.set j (some (.d d))) (σ.set j (some v)) τ' H4 → AtO (GX X Tb) B O0 M (Lk.1, (L, .lst (ps.map (·.1))) :: Lk.2) O δ σ τ' H4 := fun I =>
      I.unset hj (by rw [List.length_set]) fun i n => by rw [List.getElem?_set_ne (Ne.symm n)]
    have fin : ∀ {y : V} {dy : D} {H4 : Hp}, At (GX X Tb) B O0 M (Lk.1, (L, .lst (ps.map (·.1))) :: Lk.2) (δ.set j (some (.d d))) (σ.set j (some v)) ((y, dy) :: (ps ++ (κ ++ τ))) H4 → Iv (i + 1) (ps.map (·.2) ++ [dy]) →
        ∃ acc, H4 L = some (.lst acc) ∧ acc.length < sizeLine ∧ ∃ ps : List (V × D), At (GX X Tb) B O0 M (Lk.1, (L, .lst (ps.map (·.1))) :: Lk.2) δ σ (ps ++ (κ ++ τ)) (upd H4 L (.lst (acc ++ [y]))) ∧ ps.length ≤ i + 1 ∧ Iv (i + 1) (ps.map (·.2)) := fun {y dy H4} ⟨O4, I7⟩ hq => by
      have I8 := back I7
      refine ⟨_, (I8.hid _ List.mem_cons_self).1, ?_, ps ++ [(y, dy)], ?_, ?_, ?_⟩
      · rw [List.length_map]
        exact Nat.lt_of_le_of_lt (Nat.le_trans hal hi) hlen
      · obtain ⟨I9, _⟩ := I8.turn (ob' := .lst (ps.map (·.1) ++ [y])) noh
        rw [List.map_append]
        refine ⟨O4, I9.drops fun p hp => ?_⟩
        simp only [List.append_assoc, List.mem_append, List.mem_cons, List.cons_append, List.nil_append] at hp ⊢
        rcases hp with h | h | h
        · exact .inr (.inl h)
        · exact .inl h
        · exact .inr (.inr h)
      · rw [List.length_append]
        exact Nat.succ_le_succ hal
      · rw [List.map_append]
        exact hq
    have st := hstep i d _ hd hv
    cases c with
    | none => exact fun z H C cl fp => st z H C cl fp B O0 M _ _ _ _ ⟨O, I6⟩ _ fun y dy H4 I7 hq => fin I7 hq
    | some t =>
      obtain ⟨T, t1, t2, t3⟩ := st
      intro z H C cl fp
      refine t1 z H C cl fp B O0 M _ _ _ _ ⟨O, I6⟩ _ fun k H3 I7 hq => ?_
      cases k with
      | true => exact fun z H C cl fp => t2 hq z H C cl fp B O0 M _ _ _ _ I7 _ fun y dy H4 I8 hq => fin I8 hq
      | false =>
        obtain ⟨O4, I7⟩ := I7
        exact ⟨ps, ⟨O4, back I7⟩, Nat.le_succ_of_le hal, t3 hq⟩
  · have e : i = ds.length := by omega
    subst e
    refine .inl ⟨itv.2 (Nat.le_refl _), q _ _ _ _ _ (I3.drops (τ' := τ) fun p hp => ?_) noh (rpA_of fun p hp => I3.tmp p (List.mem_append.mpr (.inl hp))) (hend _ hv)⟩
    exact List.mem_append.mpr (.inr (List.mem_append.mpr (.inr hp)))
/-- [elt for x in iter if c ..]: Iv by the number of items taken and the list made -/
theorem wpH_lc {x : Str} {px : Pos} {ifs : List Expr} {scope : Scope} {P : List D → Prop} {c : Option Expr} (j : Nat) (hj : δ[j]? = some none)
    (h : wpI X Tb (.Name x px) iter δ (LcG X Tb scope elt δ j c fun d => ∃ ds, d = .list ds ∧ P ds))
    (hc : X.calm = true) (hN : X.N.Nodup) (ok : BlkOk X.N X.env.scope scope [(x, j)]) (hifs : ifs = c.toList) (hi : X.N[j]? = some x := by rfl) (hloc : ∀ C cl, Loc (compEnvC scope cl C X.env).scope x := by intro _ _; first | exact Or.inl rfl | exact Or.inr rfl)
    (hlo : ∀ C cl, (compEnvC scope cl C X.env).scope.names.lookup x = some .local := by intro _ _; rfl)
    (hs : ∀ x, foldedSetIterable iter X.env x = pure x := by intro _; rfl) : wpH X Tb (.ListComp elt [⟨.Name x px, iter, ifs, 0⟩] scope pos) δ P := fun B O0 M Lk σ τ H I Q q => by
  obtain ⟨wi, hwi, hw⟩ := h
  have gtr : ∀ (z : Shared) (H : Hp) (C : Addr) (cl : List (Str × Addr)) (fp : List Addr), PG (X.blk z H scope (compEnvC scope cl C X.env) fp) (.Name x px) (gName j) := fun z H C cl fp => pg_name hN hi (hloc C cl) (.inr (hlo C cl))
  have etr : ∀ (z : Shared) (H : Hp) (C : Addr) (cl : List (Str × Addr)) (fp : List Addr), PE (X.blk z H scope (compEnvC scope cl C X.env) fp) elt (fun σ H' Q => ∀ z H C cl fp, semE (blkX X z H scope C cl fp) elt σ H' Q) := fun z H C cl fp => ⟨fun pins s σ H' Q I h => (h z H C cl fp).run pins s I⟩
  have ttr : ∀ (z : Shared) (H : Hp) (C : Addr) (cl : List (Str × Addr)) (fp : List Addr), PTs (X.blk z H scope (compEnvC scope cl C X.env) fp) ifs (lcT X scope c) := fun z H C cl fp => by
    subst hifs
    cases c with
    | none => exact pts_nil
    | some t => exact pts_one ⟨fun pins s σ H' Q I h => (h z H C cl fp).run pins s I⟩
  exact sem_e (pe_lc hc hN hwi ok gtr ttr etr hs) (lc_qH j hj hw I fun O xs ds q' H' J noh r ⟨ds', e, hp⟩ => q O xs ds q' H' J noh r (by cases e; exact hp))
/-! ### enumerate -/
def enumD (ds : List D) : List D := ds.zipIdx.map fun q => .tuple [.int (q.2 : Nat), q.1]
theorem iterE {G : Glo} {a : Addr} {ds : List D} : IterJ G (Ite G.K a) (enumD ds) [(.ref a, .list ds)] := by
  intro B O0 M Lk O δ σ τ H I hk i
  have r := I.tmp _ (hk _ List.mem_cons_self)
  obtain ⟨a', xs, e, ha, rx⟩ := Rp.list' r
  obtain rfl := V.ref.inj e
  have hS : SqL G.K H a xs := SqL.of (vis_some ha).2
  have hl : (enumD ds).length = ds.length := by unfold enumD; rw [List.length_map, List.length_zipIdx]
  rw [hl]
  refine ⟨fun hi => ?_, fun hi => ⟨xs, hS, by rw [rx.length]; exact hi⟩⟩
  obtain ⟨v, hv, rv⟩ := rx.get (List.getElem?_eq_getElem hi)
  refine ⟨⟨xs, v, hS, hv⟩, fun x H' hy => ?_⟩
  obtain ⟨T, y, rfl, hT, rfl, hy⟩ := hy
  have e := hy xs hS
  rw [hv] at e
  cases e
  refine ⟨.tuple [.int (i : Nat), ds[i]], ?_, I.newTup (.cons (.int _) (.cons rv .nil)) hT⟩
  unfold enumD
  rw [List.getElem?_map, List.getElem?_zipIdx, List.getElem?_eq_getElem hi]
  simp
theorem wpI_enum {tes : List Expr} {kk : Nat} {tpos : Pos} {P : List D → Prop} (hm : X.mg "enumerate" = none) (h : wpE X Tb e δ fun d => ∃ ds, d = .list ds ∧ P (enumD ds)) (hg : Gl X "enumerate" := by rfl) (hs : starEach [e] X.env = [(false, eval e X.env)] := by rfl) : wpI X Tb (.Tuple tes kk tpos) (.Call (.Name "enumerate" p) [e] [] pos) δ P :=
  ⟨_, pi_enum hg hm (pa_cons pe_sem pa_nil hs) hs, fun B O0 M Lk σ τ H I R q => h B O0 M Lk σ τ H I _ fun v d H' J h1 => by
    obtain ⟨ds, rfl, h1⟩ := h1
    obtain ⟨O, J⟩ := J
    obtain ⟨a, xs, rfl, ha, rx⟩ := (J.tmp _ List.mem_cons_self).list'
    exact ⟨a, xs, rfl, SqL.of (vis_some ha).2, q _ _ [(.ref a, .list ds)] H' ⟨O, J⟩ iterE h1⟩⟩
/-! ### reading a list of one's own -/
theorem wpE_reprO {y : Str} {py pF : Pos} {ds : List D} {P : D → Prop} {p n : Nat} (j : Nat) (CR : CallR X (.builtin "repr") rReprD) (hm : X.mg "repr" = none) (hj : δ[j]? = some (some (.own (.lst ds)))) (hS : Sm p n (.list ds)) (hp : p ≤ 64) (hn : n ≤ 2 ^ 20) (h : P (.str (PyData.shown (.list ds)))) (hN : X.N[j]? = some y := by rfl)
    (hv : Vis X.env.scope y := by first | exact Or.inl rfl | exact Or.inr (Or.inl rfl) | exact Or.inr (Or.inr rfl)) (h1 : (y == ("__debug__" : Str)) = false := by decide) (h2 : (y == ("__classdict__" : Str)) = false := by decide) (hg : Gl X "repr" := by rfl)
    (he : starEach [.Name y py] X.env = (false, eval (.Name y py) X.env) :: starEach [] X.env := by rfl) (hpl : (backTo pos (starEach [] X.env)).any (·.1) = false := by rfl) : wpE X Tb (.Call (.Name "repr" pF) [.Name y py] [] pos) δ P := fun B O0 M Lk σ τ H I Q q => by
  obtain ⟨O, J⟩ := id I
  obtain ⟨v, e, a, rfl, _, _, _, xs, hx, r⟩ := J.slots j _ hj
  refine sem_e (pe_callB CR hg hm boot_repr' (pa_cons (pe_var hN hv h1 h2) pa_nil he) (by decide) (by decide) he hpl) ?_
  exact ⟨.ref a, e, a, .list ds, rfl, .lst hx (r.mono vis_all), hS.sh, Nat.le_trans hS.dp hp, PyData.shown_fits (B := 13) (by decide) (by decide) hS.lv (Nat.le_trans hS.wt hn), q _ _ H (I.pushS fun _ => .str _) h⟩
theorem wpE_isiO {y x : Str} {T : String} {py px pF : Pos} {ds : List D} {P : D → Prop} (j : Nat) (hm : X.mg "isinstance" = none) (hmT : X.mg x = none) (hbT : bootBuiltins x = some (.type T)) (hj : δ[j]? = some (some (.own (.lst ds)))) (h : ∃ k, kitB "list" T = some k ∧ P (.bool k)) (hN : X.N[j]? = some y := by rfl)
    (hv : Vis X.env.scope y := by first | exact Or.inl rfl | exact Or.inr (Or.inl rfl) | exact Or.inr (Or.inr rfl)) (h1 : (y == ("__debug__" : Str)) = false := by decide) (h2 : (y == ("__classdict__" : Str)) = false := by decide) (hg : Gl X "isinstance" := by rfl) (hgT : Gl X x := by rfl) (hn : x ≠ "__name__" := by decide) (hd : (x == ("__debug__" : Str)) = false := by decide)
    (he : starEach [.Name y py, .Name x px] X.env = (false, eval (.Name y py) X.env) :: starEach [.Name x px] X.env := by rfl) (hpl : (backTo pos (starEach [.Name x px] X.env)).any (·.1) = false := by rfl) (he2 : starEach [.Name x px] X.env = (false, eval (.Name x px) X.env) :: starEach [] X.env := by rfl) : wpE X Tb (.Call (.Name "isinstance" pF) [.Name y py, .Name x px] [] pos) δ P := fun B O0 M Lk σ τ H I Q q => by
  obtain ⟨O, J⟩ := id I
  obtain ⟨v, e, a, rfl, _, _, _, xs, hx, r⟩ := J.slots j _ hj
  obtain ⟨k, hk, h⟩ := h
  refine sem_e (pe_callB call_isi hg hm (by decide +kernel) (pa_cons (pe_var hN hv h1 h2) (pa_cons (pe_bltn (v := .ty T) hgT hmT hbT rfl hn hd) pa_nil he2) he) (by decide) (by decide) he hpl) ?_
  exact ⟨.ref a, e, .ref a, .ty T, .type "list", .type T, k, rfl, .ty T, .base (.lst hx), kit_ty hk, q _ _ H (I.pushS fun _ => .bl k) h⟩
end
end DL

set_option Elab.async false
set_option linter.all false
set_option maxRecDepth 100000
set_option maxHeartbeats 2000000
/-! DL21: signs of texts, all, tuple(list). -/
namespace DL
open PySem PySem.Spec L2
section
variable {X : Cx} {Tb : List Addr} {δ : Dl} {tg e a b iter elt : Expr} {pos p : Pos}
def signsD (z : Str) : List D := z.cps.toList.map fun c => .str ⟨#[c]⟩
theorem iterS {G : Glo} {z : Str} {κ : List (V × D)} : IterJ G (Its z) (signsD z) κ := by
  intro B O0 M Lk O δ σ τ H I _ i
  have hl : (signsD z).length = z.cps.size := by unfold signsD; rw [List.length_map, Array.length_toList]
  rw [hl]
  refine ⟨fun hi => ⟨hi, fun x H' hy => ?_⟩, fun hi => hi⟩
  obtain ⟨rfl, c, hc, rfl⟩ := hy
  refine ⟨.str ⟨#[c]⟩, ?_, I.push (.str _)⟩
  unfold signsD
  rw [List.getElem?_map, Array.getElem?_toList, hc]
  rfl
theorem wpI_str {P : List D → Prop} (h : wpE X Tb iter δ fun d => ∃ z, d = .str z ∧ P (signsD z)) : wpI X Tb tg iter δ P := ⟨_, pi_str pe_sem, fun B O0 M Lk σ τ H I R q => h B O0 M Lk σ τ H I _ fun v d H' J h1 => by
  obtain ⟨z, rfl, h1⟩ := h1
  obtain ⟨O, J⟩ := J
  obtain ⟨J0, rv⟩ := J.pop1
  exact ⟨z, rv.str', q _ _ [] H' ⟨O, J0⟩ iterS h1⟩⟩
def signR (f : Bool → Bool) : D → D → (D → Prop) → Prop
  | .str c, .str z, P => ∃ k, c = ⟨#[k]⟩ ∧ P (.bool (f (decide (k ∈ z.cps.toList))))
  | _, _, _ => False
theorem ok_sign : Ok2 X Tb (fun x y H Q => ∃ (c : Nat) (z : Str), x = .str ⟨#[c]⟩ ∧ y = .str z ∧ Q (.bl (decide (c ∈ z.cps.toList))) H) (signR fun k => k) := by
  intro B O0 M Lk O δ σ τ H x y d1 d2 P I rx ry h Q q
  unfold signR at h
  split at h
  · obtain ⟨k, rfl, h⟩ := h
    rw [rx.str', ry.str']
    exact ⟨k, _, rfl, rfl, q _ _ H ⟨O, I.push (.bl _)⟩ h⟩
  · exact h.elim
theorem ok_nsign : Ok2 X Tb (fun x y H Q => ∃ (c : Nat) (z : Str), x = .str ⟨#[c]⟩ ∧ y = .str z ∧ Q (.bl (!decide (c ∈ z.cps.toList))) H) (signR fun k => !k) := by
  intro B O0 M Lk O δ σ τ H x y d1 d2 P I rx ry h Q q
  unfold signR at h
  split at h
  · obtain ⟨k, rfl, h⟩ := h
    rw [rx.str', ry.str']
    exact ⟨k, _, rfl, rfl, q _ _ H ⟨O, I.push (.bl _)⟩ h⟩
  · exact h.elim
def tupR : List D → (D → Prop) → Prop
  | [.list ds], P => P (.tuple ds)
  | [.tuple ds], P => P (.tuple ds)
  | _, _ => False
theorem ok_tup : OkC X Tb (fun xs H Q => ∃ p ys, xs = [.ref p] ∧ ((SqL X.K H p ys ∧ ∀ l, H l = none → Q (.ref l) (upd H l (.tup ys))) ∨ (SqT X.K H p ys ∧ Q (.ref p) H))) tupR := by
  intro B O0 M Lk O δ σ τ H vs ds P I r h Q q
  unfold tupR at h
  split at h
  · obtain ⟨v, rfl, rv⟩ := r.one'
    obtain ⟨p, xs, rfl, hp, rp⟩ := rv.list'
    exact ⟨p, xs, rfl, .inl ⟨SqL.of (vis_some hp).2, fun l hl => q _ _ _ ⟨O, I.newTup rp hl⟩ h⟩⟩
  · obtain ⟨v, rfl, rv⟩ := r.one'
    obtain ⟨p, xs, rfl, hp, rp⟩ := id rv.tuple'
    exact ⟨p, xs, rfl, .inr ⟨SqT.of (vis_some hp).2, q _ _ H ⟨O, I.push rv⟩ h⟩⟩
  · exact h.elim
theorem r_lenL {ds : List D} {P : D → Prop} (h : P (.int ds.length)) : lenR [.list ds] P := h
theorem r_lenT {ds : List D} {P : D → Prop} (h : P (.int ds.length)) : lenR [.tuple ds] P := h
theorem r_lenS {z : Str} {P : D → Prop} (hz : z.length ≤ sizeLine) (h : P (.int z.length)) : lenR [.str z] P := ⟨hz, h⟩
theorem r_addT {xs ys : List D} {P : D → Prop} (h0 : xs ≠ []) (h1 : Nat.ble (xs.length + ys.length) 1000 = true) (h : P (.tuple (xs ++ ys))) : addR (.tuple xs) (.tuple ys) P := ⟨⟨h0, Nat.le_trans (Nat.le_of_ble_eq_true h1) (by decide)⟩, h⟩
end
end DL

set_option Elab.async false
set_option linter.all false
set_option maxRecDepth 100000
set_option maxHeartbeats 2000000
/-! DL22: empty dicts, join, slices of lists and texts, a place of an own list, picks of signs. -/
namespace DL
open PySem PySem.Spec L2
section
variable {X : Cx} {Tb : List Addr} {δ : Dl} {a b e i o : Expr} {pos p p2 py apos : Pos} {P : D → Prop} {R : Rs} {x y : Str}
theorem wpE_disp0 (h : P (.dict [])) : wpE X Tb (.Dict [] [] pos) δ P := fun B O0 M Lk σ τ H I Q q => by
  obtain ⟨O, I⟩ := I
  refine sem_e pe_dnewK fun p hp => ?_
  obtain ⟨J, hn⟩ := I.alloc (o := .dK []) hp
  exact q _ _ _ ⟨O, J.push (.dic (kvs := []) (.inl (by rw [vis_out hn, upd_same])) List.nodup_nil .nil)⟩ h
theorem wpE_dnin (hu : X.A.units + 1 < cLine) (h : wpE X Tb a δ fun d1 => wpE X Tb b δ fun d2 => dinR d1 d2 fun d => ∃ k, d = .bool k ∧ P (.bool (!k))) (hm : behindInMarks .NotIn b = false := by rfl) : wpE X Tb (.Compare a [.NotIn] [b] pos) δ P := fun B O0 M Lk σ τ H I Q q =>
  sem_e (pe_cmp (pc_dnotin hu pe_sem pe_sem) hm) (h B O0 M Lk σ τ H I _ fun x d1 H1 I1 h1 => h1 B O0 M Lk σ _ H1 I1 _ fun y d2 H2 I2 h2 => by
    obtain ⟨O, J⟩ := I2
    obtain ⟨J0, rx, ry⟩ := J.pop2
    have h2 : dinR d1 d2 fun d => ∃ k, d = .bool k ∧ P (.bool (!k)) := h2
    unfold dinR at h2
    split at h2
    · obtain ⟨p, r, rfl, hg, he⟩ := dget_of rx ry h2.1
      refine ⟨p, r, rfl, hg, ?_⟩
      rw [he]
      obtain ⟨k, e, h3⟩ := h2.2
      cases e
      exact q _ _ H2 ⟨O, J0.push (.bl _)⟩ h3
    · exact h2.elim)
theorem strs_of {H : Hp} : ∀ {xs : List V} {ys : List Str}, RpA H xs (ys.map .str) → xs = ys.map V.str
  | [], [], _ => rfl
  | _ :: _, y :: ys, .cons h r => by
    rw [h.str', strs_of r]
    rfl
theorem wpE_join (h : wpE X Tb o δ fun d1 => ∃ a : Str, d1 = .str a ∧ wpE X Tb e δ fun d2 => ∃ ys : List Str, d2 = .list (ys.map .str) ∧ (ys.map fun x => x.length).sum + ys.length * a.length ≤ 16777216 ∧ P (.str (Txt.join a ys)))
    (hs : starEach [e] X.env = [(false, eval e X.env)] := by rfl) (ha : attributeBase o "join" X.env (eval o X.env) = eval o X.env := by rfl) (hl : (apos.endLine == pos.line) = true := by rfl) : wpE X Tb (.Call (.Attribute o "join" apos) [e] [] pos) δ P := fun B O0 M Lk σ τ H I Q q =>
  sem_e (pe_join pe_sem pe_sem hs ha hl) (h B O0 M Lk σ τ H I _ fun v d1 H1 I1 h1 => by
    obtain ⟨a, rfl, h1⟩ := h1
    obtain ⟨O, K⟩ := id I1
    have ev : v = .str a := (K.tmp _ List.mem_cons_self).str'
    refine ⟨⟨a, ev⟩, h1 B O0 M Lk σ _ H1 I1 _ fun u d2 H2 I2 h2 => ?_⟩
    obtain ⟨ys, rfl, hlen, h2⟩ := h2
    obtain ⟨O, J⟩ := I2
    obtain ⟨J0, _, ru⟩ := J.pop2
    obtain ⟨ad, xs, rfl, had, rx⟩ := ru.list'
    obtain rfl := strs_of rx
    exact ⟨a, ad, ys, ev, rfl, .inl (SqL.of (vis_some had).2), hlen, q _ _ H2 ⟨O, J0.push (.str _)⟩ h2⟩)
/-- a[:k], a list -/
theorem wpE_takeL (h : wpE X Tb a δ fun d => ∃ ds, d = .list ds ∧ wpE X Tb b δ fun n => ∃ k : Nat, n = .int (k : Nat) ∧ P (.list (ds.take k))) : wpE X Tb (.Subscript a (.Slice none (some b) none p2) pos) δ P := fun B O0 M Lk σ τ H I Q q =>
  sem_e (pe_slice sl_list pe_sem po_none (po_some pe_sem)) (h B O0 M Lk σ τ H I _ fun x d1 H1 I1 h1 => by
    obtain ⟨ds, rfl, h1⟩ := h1
    refine h1 B O0 M Lk σ _ H1 I1 _ fun y d2 H2 I2 h2 => ?_
    obtain ⟨k, rfl, h2⟩ := h2
    obtain ⟨O, J⟩ := I2
    obtain ⟨J0, rx, ry⟩ := J.pop2
    obtain ⟨ad, xs, rfl, ha, rxs⟩ := rx.list'
    refine ⟨(k : Nat), ry.int', ad, xs, rfl, SqL.of (vis_some ha).2, fun p hp => ?_⟩
    rw [take_cut]
    exact q _ _ _ ⟨O, J0.newLst (rxs.take k) hp⟩ h2)
/-- a[k:], a list -/
theorem wpE_dropL (h : wpE X Tb a δ fun d => ∃ ds, d = .list ds ∧ wpE X Tb b δ fun n => ∃ k : Nat, n = .int (k : Nat) ∧ P (.list (ds.drop k))) : wpE X Tb (.Subscript a (.Slice (some b) none none p2) pos) δ P := fun B O0 M Lk σ τ H I Q q =>
  sem_e (pe_slice sl_list pe_sem (po_some pe_sem) po_none) (h B O0 M Lk σ τ H I _ fun x d1 H1 I1 h1 => by
    obtain ⟨ds, rfl, h1⟩ := h1
    refine h1 B O0 M Lk σ _ H1 I1 _ fun y d2 H2 I2 h2 => ?_
    obtain ⟨k, rfl, h2⟩ := h2
    obtain ⟨O, J⟩ := I2
    obtain ⟨J0, rx, ry⟩ := J.pop2
    obtain ⟨ad, xs, rfl, ha, rxs⟩ := rx.list'
    refine ⟨(k : Nat), ry.int', ad, xs, rfl, SqL.of (vis_some ha).2, fun p hp => ?_⟩
    rw [drop_cut]
    exact q _ _ _ ⟨O, J0.newLst (rxs.drop k) hp⟩ h2)
/-- a[:k], a text -/
theorem wpE_takeS (h : wpE X Tb a δ fun d => ∃ z : Str, d = .str z ∧ z.length ≤ sizeLine ∧ wpE X Tb b δ fun n => ∃ k : Int, n = .int k ∧ P (.str (cutS z none (some k)))) : wpE X Tb (.Subscript a (.Slice none (some b) none p2) pos) δ P := fun B O0 M Lk σ τ H I Q q =>
  sem_e (pe_slice sl_str pe_sem po_none (po_some pe_sem)) (h B O0 M Lk σ τ H I _ fun x d1 H1 I1 h1 => by
    obtain ⟨z, rfl, hz, h1⟩ := h1
    refine h1 B O0 M Lk σ _ H1 I1 _ fun y d2 H2 I2 h2 => ?_
    obtain ⟨k, rfl, h2⟩ := h2
    obtain ⟨O, J⟩ := I2
    obtain ⟨J0, rx, ry⟩ := J.pop2
    exact ⟨k, ry.int', z, rx.str', hz, q _ _ H2 ⟨O, J0.push (.str _)⟩ h2⟩)
/-- a[k:], a text -/
theorem wpE_dropS (h : wpE X Tb a δ fun d => ∃ z : Str, d = .str z ∧ z.length ≤ sizeLine ∧ wpE X Tb b δ fun n => ∃ k : Int, n = .int k ∧ P (.str (cutS z (some k) none))) : wpE X Tb (.Subscript a (.Slice (some b) none none p2) pos) δ P := fun B O0 M Lk σ τ H I Q q =>
  sem_e (pe_slice sl_str pe_sem (po_some pe_sem) po_none) (h B O0 M Lk σ τ H I _ fun x d1 H1 I1 h1 => by
    obtain ⟨z, rfl, hz, h1⟩ := h1
    refine h1 B O0 M Lk σ _ H1 I1 _ fun y d2 H2 I2 h2 => ?_
    obtain ⟨k, rfl, h2⟩ := h2
    obtain ⟨O, J⟩ := I2
    obtain ⟨J0, rx, ry⟩ := J.pop2
    exact ⟨k, ry.int', z, rx.str', hz, q _ _ H2 ⟨O, J0.push (.str _)⟩ h2⟩)
theorem RpA.set {H : Hp} {v : V} {d : D} (h : Rp H v d) : ∀ {vs : List V} {ds : List D} (n : Nat), RpA H vs ds → RpA H (vs.set n v) (ds.set n d)
  | _, _, _, .nil => .nil
  | _, _, 0, .cons _ r => .cons h r
  | _, _, n + 1, .cons g r => .cons g (RpA.set h n r)
/-- name[i] = e, the list the frame's own -/
theorem wpS_putL {px spos : Pos} {ds : List D} (j : Nat) (hj : δ[j]? = some (some (.own (.lst ds)))) (h : wpE X Tb e δ fun d => wpE X Tb i δ fun k => ∃ n : Nat, k = .int (n : Nat) ∧ n < ds.length ∧ R.nx (δ.set j (some (.own (.lst (ds.set n d))))))
    (hN : X.N[j]? = some x := by rfl) (hv : Vis X.env.scope x := by first | exact Or.inl rfl | exact Or.inr (Or.inl rfl) | exact Or.inr (Or.inr rfl)) (h1 : (x == ("__debug__" : Str)) = false := by decide) (h2 : (x == ("__classdict__" : Str)) = false := by decide)
    (hg : ∀ v, assign (.Subscript (.Name x px) i spos) X.env v = (do
      let ov ← holding [v] (eval (.Name x px) X.env)
      let iv ← holding [v, ov] (eval i X.env)
      standAt spos
      holding [v, ov, iv] (setItem ov iv v)
      release [v, ov, iv] []) := by intro _; rfl)
    (hs : swapsWithSole [.Subscript (.Name x px) i spos] e pos.line X.env = pure false := by rfl) (hw : swappedStores [.Subscript (.Name x px) i spos] e X.env = pure none := by rfl)
    (ha : (assignEach [.Subscript (.Name x px) i spos] X.env).map (·.2) = [assign (.Subscript (.Name x px) i spos) X.env] := by rfl) : wpS X Tb (.Assign [.Subscript (.Name x px) i spos] e pos) δ R := fun B O0 M Lk σ τ H I =>
  sem_s (ps_asg pe_sem (pg_sub (pe_var hN hv h1 h2) pe_sem set_list hg) hs hw ha) (h B O0 M Lk σ τ H I _ fun u d H1 J q => by
    obtain ⟨O, K⟩ := id J
    obtain ⟨v, e0, _⟩ := K.slots j _ hj
    refine ⟨v, e0, q B O0 M Lk σ _ H1 J _ fun w k H2 J2 q2 => ?_⟩
    obtain ⟨n, rfl, hn, hq⟩ := q2
    obtain ⟨O2, K2⟩ := J2
    obtain ⟨v2, e2, p, rfl, hp, _, _, xs, hx, r⟩ := K2.slots j _ hj
    have ev : v = .ref p := Option.some.inj (Option.some.inj (e0.symm.trans e2))
    obtain ⟨K3, ru, rw⟩ := K2.pop2
    refine ⟨p, xs, (n : Nat), n, ev, rw.int', hx, ?_, ⟨_, ⟨O2, K3.mutL hj e2 (RpA.set ru n r)⟩, hq⟩⟩
    unfold ixN
    rw [if_pos (Int.natCast_nonneg n), if_pos (by rw [r.length]; exact Int.ofNat_lt.mpr hn)]
    rfl)
abbrev preS : List D → Prop := fun ds => ∃ z : Str, ds = [.str z] ∧ 0 < z.length ∧ Ok8 1000 z
abbrev postS : List D → D → Prop := fun ds d => ∃ (z : Str) (c : Nat), ds = [.str z] ∧ d = .str ⟨#[c]⟩ ∧ c ∈ z.cps.toList ∧ c < 16 ^ 8
/-- _law_pick(feed, e), e a text -/
theorem wpE_pickS {fA : Addr} {fd : FuncData} {k : Nat} {ps : List Str} (j : Nat) (F : FnOk X.prog X.w X.K X.mg X.base CX0 k fA fd ps (spD Tb 1 1 preS postS)) (hr : Room k X.A) (hm : X.mg x = some (.ref fA)) (hk : PySem.W.keepIn X.K (.ref fA) = true) (hb : Binds X.K fd ps [])
    (hj : δ[j]? = some (some (.own .feed))) (h : wpE X Tb e δ fun d => ∃ z : Str, d = .str z ∧ 0 < z.length ∧ Ok8 1000 z ∧ ∀ c, c ∈ z.cps.toList → c < 16 ^ 8 → P (.str ⟨#[c]⟩)) (hN : X.N[j]? = some y := by rfl)
    (hv : Vis X.env.scope y := by first | exact Or.inl rfl | exact Or.inr (Or.inl rfl) | exact Or.inr (Or.inr rfl)) (hd1 : (y == ("__debug__" : Str)) = false := by decide) (hd2 : (y == ("__classdict__" : Str)) = false := by decide)
    (hg : Gl X x := by rfl) (hdb : (x == ("__debug__" : Str)) = false := by decide) (he : starEach [.Name y py, e] X.env = (false, eval (.Name y py) X.env) :: starEach [e] X.env := by rfl) (hpl : (backTo pos (starEach [e] X.env)).any (·.1) = false := by rfl)
    (he2 : starEach [e] X.env = (false, eval e X.env) :: starEach [] X.env := by rfl) :
    wpE X Tb (.Call (.Name x p) [.Name y py, e] [] pos) δ P :=
  wpE_callF j F hr hm hk hb hj (wpA_cons (wpE_mono h fun d h => by
    obtain ⟨z, rfl, m0, m1, hz⟩ := h
    exact wpA_nil ⟨rfl, ⟨z, rfl, m0, m1⟩, fun d ⟨z', c, e1, e2, e3, e4⟩ => by
      cases e1
      rw [e2]
      exact hz c e3 e4⟩) he2) hN hv hd1 hd2 hg hdb he hpl
end
theorem ok8_cut {n : Nat} {z : Str} {lo hi : Option Int} (h : Ok8 n z) : Ok8 n (cutS z lo hi) := by
  have hl : (cutS z lo hi).cps.toList = List.take (HT.sIx z.length z.length hi - HT.sIx z.length 0 lo) (List.drop (HT.sIx z.length 0 lo) z.cps.toList) := by
    unfold cutS
    rfl
  refine ⟨?_, fun c hc => ?_⟩
  · have e : (cutS z lo hi).length = (cutS z lo hi).cps.toList.length := (Array.length_toList).symm
    rw [e, hl, List.length_take, List.length_drop]
    have h1 : z.cps.toList.length = z.length := Array.length_toList
    have := h.1
    omega
  · rw [hl] at hc
    exact h.2 c (List.mem_of_mem_drop (List.mem_of_mem_take hc))
/-- the signs joined -/
def signs1 (cs : List Nat) : List Str := cs.map fun c => ⟨#[c]⟩
theorem glue_fold : ∀ (cs : List Nat) (acc : Array Nat), ((signs1 cs).foldl (fun acc p => acc ++ (Str.empty).cps ++ p.cps) acc).toList = acc.toList ++ cs
  | [], acc => (List.append_nil _).symm
  | c :: cs, acc => by
    show ((signs1 cs).foldl (fun acc p => acc ++ (Str.empty).cps ++ p.cps) (acc ++ (Str.empty).cps ++ #[c])).toList = _
    rw [glue_fold cs]
    simp [Str.empty]
theorem join_signs (cs : List Nat) : (Txt.join Str.empty (signs1 cs)).cps.toList = cs := by
  cases cs with
  | nil => rfl
  | cons c cs =>
    show ((signs1 cs).foldl (fun acc p => acc ++ (Str.empty).cps ++ p.cps) #[c]).toList = _
    rw [glue_fold]
    rfl
theorem join_ok {cs : List Nat} {n : Nat} (hl : cs.length ≤ n) (h : ∀ c ∈ cs, c < 16 ^ 8) : Ok8 n (Txt.join Str.empty (signs1 cs)) := by
  have e := join_signs cs
  refine ⟨?_, fun c hc => h c (by rw [e] at hc; exact hc)⟩
  have e2 : (Txt.join Str.empty (signs1 cs)).length = (Txt.join Str.empty (signs1 cs)).cps.toList.length := (Array.length_toList).symm
  rw [e2, e]
  exact hl
end DL
namespace DL
open PySem PySem.Spec L2
section
variable {X : Cx} {Tb : List Addr} {δ : Dl} {a b : Expr} {pos : Pos}
theorem wpT_dnin {P : Bool → Prop} (hu : X.A.units + 1 < cLine) (h : wpE X Tb a δ fun d1 => wpE X Tb b δ fun d2 => dinR d1 d2 fun d => ∃ k, d = .bool k ∧ P (!k)) (hm : behindInMarks .NotIn b = false := by rfl) : wpT X Tb (.Compare a [.NotIn] [b] pos) δ P := fun B O0 M Lk σ τ H I Q q =>
  sem_t (pt_cmp (pc_dnotin hu pe_sem pe_sem) hm) (h B O0 M Lk σ τ H I _ fun x d1 H1 I1 h1 => h1 B O0 M Lk σ _ H1 I1 _ fun y d2 H2 I2 h2 => by
    obtain ⟨O, J⟩ := I2
    obtain ⟨J0, rx, ry⟩ := J.pop2
    have h2 : dinR d1 d2 fun d => ∃ k, d = .bool k ∧ P (!k) := h2
    unfold dinR at h2
    split at h2
    · obtain ⟨p, r, rfl, hg, he⟩ := dget_of rx ry h2.1
      refine ⟨p, r, rfl, hg, ?_⟩
      rw [he]
      obtain ⟨k, e, h3⟩ := h2.2
      cases e
      exact ⟨_, rfl, q _ H2 ⟨O, J0⟩ h3⟩
    · exact h2.elim)
end
section
variable {X : Cx} {Tb : List Addr} {δ : Dl} {elt iter : Expr} {pos : Pos}
theorem wpE_lcG {x : Str} {px : Pos} {ifs : List Expr} {scope : Scope} {P : D → Prop} {c : Option Expr} (j : Nat) (hj : δ[j]? = some none)
    (h : wpI X Tb (.Name x px) iter δ (LcG X Tb scope elt δ j c P))
    (hc : X.calm = true) (hN : X.N.Nodup) (ok : BlkOk X.N X.env.scope scope [(x, j)]) (hifs : ifs = c.toList) (hi : X.N[j]? = some x := by rfl) (hloc : ∀ C cl, Loc (compEnvC scope cl C X.env).scope x := by intro _ _; first | exact Or.inl rfl | exact Or.inr rfl)
    (hlo : ∀ C cl, (compEnvC scope cl C X.env).scope.names.lookup x = some .local := by intro _ _; rfl)
    (hs : ∀ x, foldedSetIterable iter X.env x = pure x := by intro _; rfl) : wpE X Tb (.ListComp elt [⟨.Name x px, iter, ifs, 0⟩] scope pos) δ P := wpE_lc j hj h hc hN ok hifs hi hloc hlo hs
end
/-- a text of at most n signs, all of them signs of Unicode -/
def VOk (n : Nat) (x : Str) : Prop := x.length ≤ n ∧ ∀ c ∈ x.cps.toList, c < 1114112
theorem VOk.ok8 {n : Nat} {x : Str} (h : VOk n x) : Ok8 n x := ⟨h.1, fun c hc => Nat.lt_trans (h.2 c hc) (by decide)⟩
theorem VOk.mono {n m : Nat} {x : Str} (h : VOk n x) (k : n ≤ m) : VOk m x := ⟨Nat.le_trans h.1 k, h.2⟩
theorem VOk.app {n m : Nat} {x y : Str} (hx : VOk n x) (hy : VOk m y) : VOk (n + m) (x ++ y) := by
  refine ⟨by rw [strLen_append]; have := hx.1; have := hy.1; omega, fun c hc => ?_⟩
  have e : (x ++ y).cps.toList = x.cps.toList ++ y.cps.toList := by
    show (x.cps ++ y.cps).toList = _
    rw [Array.toList_append]
  rw [e] at hc
  exact (List.mem_append.mp hc).elim (hx.2 c) (hy.2 c)
theorem vok_one {c : Nat} (h : c < 1114112) : VOk 1 ⟨#[c]⟩ := ⟨Nat.le_refl 1, fun d hd => by
  have : d = c := by simpa using hd
  rw [this]
  exact h⟩
theorem vok_text {n : Nat} {x : Str} (h : x.length ≤ n) (h2 : x.cps.toList.all (fun c => decide (c < 1114112)) = true) : VOk n x := ⟨h, fun c hc => of_decide_eq_true (List.all_eq_true.mp h2 c hc)⟩
theorem vok_cut {n : Nat} {z : Str} {lo hi : Option Int} (h : VOk n z) : VOk n (cutS z lo hi) := by
  refine ⟨(ok8_cut h.ok8).1, fun c hc => ?_⟩
  have hl : (cutS z lo hi).cps.toList = List.take (HT.sIx z.length z.length hi - HT.sIx z.length 0 lo) (List.drop (HT.sIx z.length 0 lo) z.cps.toList) := by
    unfold cutS
    rfl
  rw [hl] at hc
  exact h.2 c (List.mem_of_mem_drop (List.mem_of_mem_take hc))
theorem vok_join {cs : List Nat} {n : Nat} (hl : cs.length ≤ n) (h : ∀ c ∈ cs, c < 1114112) : VOk n (Txt.join Str.empty (signs1 cs)) := by
  have e := join_signs cs
  exact ⟨(join_ok hl fun c hc => Nat.lt_trans (h c hc) (by decide)).1, fun c hc => h c (by rw [e] at hc; exact hc)⟩
end DL

set_option Elab.async false
set_option linter.all false
set_option maxRecDepth 100000
set_option maxHeartbeats 2000000
/-! DL23: == with a text, != with [], isinstance of two classes, is not True, tuples joined that may be empty. -/
namespace DL
open PySem PySem.Spec L2 PySem.SeqAt
open AutoSeq1 (wpAny_loadPart')
open MeetsSeq
theorem str_eq_declines_dict (b : Str) (u : Tok) (l : Addr) (dd : Option Addr) (es : Array DictEntry) (ep : Nat) (sl : Array (Option Value)) :
    Meets (Builtin.«str.__eq__» ⟨[.str b u, .ref l], []⟩) (fun _ R s => s.heap.get? l = some { cls := .type "dict", dict := dd, data := .dict es ep, slots := sl } ∧ R (.ok (.ret .notImplemented)) s) :=
  .of_wp fun prog w A R s h => by obtain ⟨hp, g, d, tk, os⟩ := s; obtain ⟨hl, h⟩ := h; wp_walk using wpAny_loadPart' hl, wpAny_load hl; exact ⟨_, rfl, h⟩
theorem rc_dict_str {A : Around} {s : Shared} {a : Addr} {o : Obj} {es : Array DictEntry} {ep : Nat} (b : Str) (u : Tok) (ho : s.heap.get? a = some o) (hc : o.cls = .type "dict") (hd : o.data = .dict es ep) (hu : A.units < cLine) : RcAt A s (.ref a) (.str b u) false := fun prog w E Q h => by
  have da : s.TypeIs (.ref a) "dict" := ⟨o, ho, hc⟩
  obtain ⟨cls, dd, dat, sl⟩ := o
  simp only at hc hd
  subst hc hd
  refine rc_eq_decline_or (k := false) da (typeIs_str s b u) (by decide) F.sub_str_dict F.slot_dict_eq F.slot_str_eq_refl (fun Q' hq => ?_)
    (fun _ hq => call_meets F.slot_str_eq_refl (typeIs_str s b u) F.entry_str_eq (F.args_str_eq_2 _ _) (str_eq_declines_dict b u a dd es ep sl) ⟨ho, hq⟩)
    (fun _ hq => wpAny_of_eq (rfl : isSame (.ref a) (.str b u) = pure false) hq) (.inr hu) h
  refine wpAny_call_entry F.slot_dict_eq da F.entry_dict_eq ?_ (F.args_dict_eq_2 _ _)
  show wpAny _ _ (Builtin.Dict.dictSlotArgs "__eq__" ⟨[.ref a, .str b u], []⟩ >>= _) _ _ s
  refine wpAny_bind ?_
  unfold Builtin.Dict.dictSlotArgs
  refine wpAny_bind (wpAny_notOrdered_dict da ?_)
  show wpAny _ _ (pure (Value.ref a, Value.str b u)) _ _ s
  refine wpAny_pure ?_
  refine wpAny_bind (wpAny_isInstance (T := "str") (typeIs_str s b u) F.sub_str_dict ?_)
  rw [if_pos (by decide : (!false) = true)]
  refine wpAny_bind (wpAny_rule ?_)
  exact wpAny_pure ⟨_, rfl, hq⟩
section
variable {X : Cx} {Tb : List Addr} {δ : Dl} {a b e : Expr} {pos p py py2 tpos : Pos} {P : D → Prop}
def rEqS (K : PySem.W.Frag) : R2 := fun x y H Q => ∃ z, y = .str z ∧ ((scal x y = true ∧ Q (.bl (decide (x = y))) H) ∨ (∃ a xs, x = .ref a ∧ SqL K H a xs ∧ Q (.bl false) H) ∨ (∃ a xs, x = .ref a ∧ SqT K H a xs ∧ Q (.bl false) H) ∨ (∃ a kvs, x = .ref a ∧ Rd H a (.dK kvs) ∧ Q (.bl false) H))
theorem op_eqS (hu : X.A.units + 64 < cLine) : OpR X (compareOp .Eq) (rEqS X.K) := by
  intro pins s σ H x y v u Q I rx ry h
  obtain ⟨z, rfl, h⟩ := h
  rcases h with ⟨h1, h2⟩ | ⟨a, xs, rfl, hs, q⟩ | ⟨a, xs, rfl, hs, q⟩ | ⟨a, kvs, rfl, hs, q⟩
  · exact op_eq _ _ _ _ _ _ _ _ _ I rx ry ⟨h1, h2⟩
  · cases rx
    obtain ⟨t, rfl⟩ := ry
    obtain ⟨its, rv, ⟨o, n, ho, hc, _, hd⟩, _⟩ := I.list hs
    exact RcAt.list_str z t ⟨_, ho, hc, _, hd⟩ (by omega) _ _ _ _ ⟨.bl false, H, I, rfl, q⟩
  · cases rx
    obtain ⟨t, rfl⟩ := ry
    obtain ⟨its, rv, ⟨o, ho, hc, n, hd⟩, _⟩ := I.tuple hs
    exact RcAt.tuple_str z t ⟨_, ho, hc, _, hd⟩ (by omega) _ _ _ _ ⟨.bl false, H, I, rfl, q⟩
  · cases rx
    obtain ⟨t, rfl⟩ := ry
    obtain ⟨_, _, vs, _, o, es, ep, ho, hx, hd, _⟩ := dk_rd I.hok hs
    exact rc_dict_str z t ho hx.1 hd (by omega) _ _ _ _ ⟨.bl false, H, I, rfl, q⟩
def strIs (z : Str) : D → Bool
  | .str y => decide (y = z)
  | _ => false
def eqSR : D → D → (D → Prop) → Prop
  | d, .str z, P => tyD d ≠ "?" ∧ P (.bool (strIs z d))
  | _, _, _ => False
theorem ok_eqS : Ok2 X Tb (rEqS X.K) eqSR := by
  intro B O0 M Lk O δ σ τ H x y d1 d2 P I rx ry h Q q
  unfold eqSR at h
  split at h
  · rename_i z
    obtain ⟨hty, h⟩ := h
    rw [ry.str']
    refine ⟨z, rfl, ?_⟩
    have fin : ∀ k, P (.bool k) → Q (.bl k) H := fun k hk => q _ _ H ⟨O, I.push (.bl k)⟩ hk
    cases rx with
    | ins _ _ _ => exact absurd (tyD_ins _) hty
    | non => exact .inl ⟨rfl, fin _ h⟩
    | bl b => exact .inl ⟨rfl, fin _ h⟩
    | int i => exact .inl ⟨rfl, fin _ h⟩
    | str w =>
      refine .inl ⟨rfl, ?_⟩
      have e : decide (V.str w = V.str z) = decide (w = z) := decide_eq_decide.mpr ⟨fun h => V.str.inj h, fun h => by rw [h]⟩
      rw [e]
      exact fin _ h
    | lst ha _ => exact .inr (.inl ⟨_, _, rfl, SqL.of (vis_some ha).2, fin _ h⟩)
    | tup ha _ => exact .inr (.inr (.inl ⟨_, _, rfl, SqT.of (vis_some ha).2, fin _ h⟩))
    | dic ha _ _ => exact .inr (.inr (.inr ⟨_, _, rfl, ha.elim (fun e => .inl (vis_some e).2) fun ⟨o, e⟩ => .inr ⟨o, (vis_some e).2⟩, fin _ h⟩))
  · exact h.elim
/-- xs != ys, no dict within -/
def rNeP (X : Cx) : R2 := fun x y H Q => ∃ d e, Dp X.K H x d ∧ Dp X.K H y e ∧ d.plain = true ∧ e.plain = true ∧ X.A.units + min d.depth e.depth < cLine ∧ Q (.bl (!PyData.eqv d e)) H
theorem op_neP : OpR X (compareOp .NotEq) (rNeP X) := by
  intro pins s σ H x y v u Q I rx ry h
  obtain ⟨d, e, hd, he, sd, se, hu, q⟩ := h
  obtain ⟨as, r1⟩ := Dp.reads I d x v hd rx
  obtain ⟨bs, r2⟩ := Dp.reads I e y u he ry
  exact ne_plain r1 r2 sd se hu ⟨.bl _, H, I, rfl, q⟩
def neNilR : D → D → (D → Prop) → Prop
  | .list ds, .list [], P => (ndA ds = true ∧ PyData.plainAll ds = true) ∧ P (.bool (!ds.isEmpty))
  | _, _, _ => False
theorem ok_neNil (hu : X.A.units + 64 < cLine) : Ok2 X Tb (rNeP X) neNilR := by
  intro B O0 M Lk O δ σ τ H x y d1 d2 P I rx ry h Q q
  unfold neNilR at h
  split at h
  · rename_i ds
    obtain ⟨⟨h1, h2⟩, hP⟩ := h
    obtain ⟨a, xs, rfl, ha, ra⟩ := rx.list'
    obtain ⟨b, ys, rfl, hb, rb⟩ := ry.list'
    have e0 : PyData.eqv (.list ds) (.list []) = ds.isEmpty := by cases ds <;> simp [PyData.eqv, PyData.eqvAll]
    have hd1 : min (PyData.depth (.list ds)) (PyData.depth (.list [])) ≤ 1 := by
      have : PyData.depth (.list []) ≤ 1 := by simp [PyData.depth, PyData.depthAll]
      omega
    refine ⟨.list ds, .list [], .lst (SqL.of (vis_some ha).2) (ra.dp h1), .lst (SqL.of (vis_some hb).2) (rb.dp rfl), by simp only [PyData.plain]; exact h2, by simp [PyData.plain, PyData.plainAll], by omega, ?_⟩
    rw [e0]
    exact q _ _ H ⟨O, I.push (.bl _)⟩ hP
  · exact h.elim
def isBR (f : Bool → Bool) : D → D → (D → Prop) → Prop
  | .bool a, .bool b, P => P (.bool (f (decide (a = b))))
  | _, _, _ => False
theorem ok_notB : Ok2 X Tb rNotB (isBR fun k => !k) := by
  intro B O0 M Lk O δ σ τ H x y d1 d2 P I rx ry h Q q
  unfold isBR at h
  split at h
  · cases rx
    cases ry
    exact ⟨_, _, rfl, rfl, q _ _ H ⟨O, I.push (.bl _)⟩ h⟩
  · exact h.elim
def catR : D → D → (D → Prop) → Prop
  | .tuple xs, .tuple ys, P => xs.length + ys.length ≤ sizeLine ∧ P (.tuple (xs ++ ys))
  | _, _, _ => False
theorem ok_catA : Ok2 X Tb (rCatA X.K) catR := by
  intro B O0 M Lk O δ σ τ H x y d1 d2 P I rx ry h Q q
  unfold catR at h
  split at h
  · rename_i xs ys
    obtain ⟨hl, hP⟩ := h
    obtain ⟨a, vs, rfl, ha, ra⟩ := id rx.tuple'
    obtain ⟨b, us, rfl, hb, rb⟩ := id ry.tuple'
    refine ⟨a, b, vs, us, rfl, rfl, SqT.of (vis_some ha).2, SqT.of (vis_some hb).2, by rw [ra.length, rb.length]; exact hl, fun e => ?_, fun _ e => ?_, fun _ _ p hp => ?_⟩
    · subst e
      cases ra
      exact q _ _ H ⟨O, I.push ry⟩ hP
    · subst e
      cases rb
      rw [List.append_nil] at hP
      exact q _ _ H ⟨O, I.push rx⟩ hP
    · exact q _ _ _ ⟨O, I.newTup (ra.append rb) hp⟩ hP
  · exact h.elim
/-- isinstance(e, (T, U)) -/
theorem wpE_isi2 {x y : Str} {T U : String} {kk : Nat} (hm : X.mg "isinstance" = none) (hmT : X.mg x = none) (hbT : bootBuiltins x = some (.type T)) (hmU : X.mg y = none) (hbU : bootBuiltins y = some (.type U)) (h : wpE X Tb e δ fun d => ∃ k j, kitB (tyD d) T = some k ∧ kitB (tyD d) U = some j ∧ P (.bool (k || j)))
    (hg : Gl X "isinstance" := by rfl) (hgT : Gl X x := by rfl) (hgU : Gl X y := by rfl) (hn : x ≠ "__name__" := by decide) (hn2 : y ≠ "__name__" := by decide) (hd : (x == ("__debug__" : Str)) = false := by decide) (hd2 : (y == ("__debug__" : Str)) = false := by decide) (hT : T ≠ "?" := by decide)
    (he : starEach [e, .Tuple [.Name x py, .Name y py2] kk tpos] X.env = (false, eval e X.env) :: starEach [.Tuple [.Name x py, .Name y py2] kk tpos] X.env := by rfl) (hpl : (backTo pos (starEach [.Tuple [.Name x py, .Name y py2] kk tpos] X.env)).any (·.1) = false := by rfl) (he2 : starEach [.Tuple [.Name x py, .Name y py2] kk tpos] X.env = (false, eval (.Tuple [.Name x py, .Name y py2] kk tpos) X.env) :: starEach [] X.env := by rfl)
    (he3 : starEach [.Name x py, .Name y py2] X.env = (false, eval (.Name x py) X.env) :: starEach [.Name y py2] X.env := by rfl) (he4 : starEach [.Name y py2] X.env = (false, eval (.Name y py2) X.env) :: starEach [] X.env := by rfl) : wpE X Tb (.Call (.Name "isinstance" p) [e, .Tuple [.Name x py, .Name y py2] kk tpos] [] pos) δ P := fun B O0 M Lk σ τ H I Q q =>
  sem_e (pe_callB call_isiT hg hm (by decide +kernel) (pa_cons pe_sem (pa_cons (pe_tup (pa_cons (pe_bltn (v := .ty T) hgT hmT hbT rfl hn hd) (pa_cons (pe_bltn (v := .ty U) hgU hmU hbU rfl hn2 hd2) pa_nil he4) he3)) pa_nil he2) he) (by decide) (by decide) he hpl) (h B O0 M Lk σ τ H I _ fun v d H' J h3 => by
    obtain ⟨k, j, hk, hj, h3⟩ := h3
    obtain ⟨O', J'⟩ := J
    refine ⟨by show 2 ≤ sizeLine; decide, fun tp htp => ?_⟩
    obtain ⟨J2, _⟩ := J'.alloc (o := .tup [.ty T, .ty U]) htp
    obtain ⟨J1, rv⟩ := J2.pop1
    refine ⟨v, tp, [.ty T, .ty U], .type (tyD d), [.type T, .type U], k || j, rfl, upd_same, .cons (.ty T) (.cons (.ty U) .nil), ty_of rv (fun z => kit_no hT (by rw [z] at hk; exact hk)), ?_, q _ _ _ ⟨O', J1.push (.bl _)⟩ h3⟩
    unfold PySem.W.kitAny
    rw [kit_ty hk]
    cases k with
    | true => rfl
    | false =>
      show PySem.W.kitAny _ _ _ = _
      unfold PySem.W.kitAny
      rw [kit_ty hj]
      cases j <;> rfl)
end
end DL

set_option Elab.async false
set_option linter.all false
set_option maxRecDepth 100000
set_option maxHeartbeats 2000000
/-! DL24: three names at once, two new lists at once, sorted(dict), a list turned round, a list of the frame's own that is only read. -/
namespace DL
open PySem PySem.Spec L2 PyProof.Rows
section
variable {X : Cx} {Tb : List Addr} {δ : Dl} {a b c e : Expr} {es : List Expr} {pos p : Pos} {P : D → Prop} {R : Rs}
/-! names of any place, stored from the right -/
theorem ps_parL {i j : Nat} {x y : Str} {ta : TA} {px py pt : Pos} {kt k2 pt2} (hc : X.calm = true) (hN : X.N.Nodup) (hi : X.N[i]? = some x) (hj : X.N[j]? = some y) (hij : i ≠ j)
    (lx : Loc X.env.scope x) (fx : X.fn x = true ∨ X.env.scope.names.lookup x = some .local) (ly : Loc X.env.scope y) (fy : X.fn y = true ∨ X.env.scope.names.lookup y = some .local) (ha : PA X [a, b] ta)
    (hw : swappedStores [.Tuple [.Name x px, .Name y py] kt pt] (.Tuple [a, b] k2 pt2) X.env = pure (some [x, y])) (hs : swapsWithSole [.Tuple [.Name x px, .Name y py] kt pt] (.Tuple [a, b] k2 pt2) pos.line X.env = pure false) :
    PS X (.Assign [.Tuple [.Name x px, .Name y py] kt pt] (.Tuple [a, b] k2 pt2) pos) (tPar i j ta) := by
  refine ⟨fun pins s σ H D I h => ?_⟩
  rw [exec_Assign_arm]
  refine wpAny_bind (wpAny_standAt ?_)
  rw [hs]
  refine wpAny_bind (wpAny_pure ?_)
  rw [if_neg (by decide)]
  refine wpAny_bind (Tuple_ (thn (ha.run _ pins s σ H _ I h) fun ws t1 ⟨vs, G1, J1, rr, qq⟩ => ?_))
  obtain ⟨v, w, ev, qq⟩ := qq
  subst ev
  obtain ⟨n1, n2, rfl, rv, rw'⟩ : ∃ n1 n2, ws = [n1, n2] ∧ RelV v n1 ∧ RelV w n2 := by
    cases rr with | cons p q => cases q with | cons p' q' => cases q' with | nil => exact ⟨_, _, rfl, p, p'⟩
  refine wpAny_newObj_type ?_ (by show 2 ≤ sizeLine; decide)
  have J2 : Inv X pins σ G1 { t1 with heap := t1.heap.push { cls := .type "tuple", data := .seq [n1, n2].toArray } } := J1.kept (t' := t1.toks) fun d o ed => Heap.get?_push_of_some _ ed
  rw [hw]
  refine wpAny_bind (wpAny_pure ?_)
  show wpAny (model X.prog X.w) X.A (do rule "assign.swapped-stores"; let its ← unpackItems (.ref t1.heap.objs.size) 2 none; assignInOrder [fun u => bindName X.env y u, fun u => bindName X.env x u] its.reverse; pure Flow.next) _ _ _
  refine wpAny_bind (wpAny_rule (wpAny_bind (unpackItems_tuple (items := #[n1, n2]) (J1.ok.hd hc) (IsTup.new t1.heap _) fun g hg => ?_)))
  have J3 := J2.kept (h' := g) (t' := t1.toks) fun d o ed => hg d o (Nat.ne_of_lt (Heap.lt_size ed)) ed
  show wpAny _ _ (assignInOrder [fun u => bindName X.env y u, fun u => bindName X.env x u] [n2, n1] >>= fun _ => pure Flow.next) _ _ _
  refine wpAny_bind (assignInOrder_cons (wpAny_bindName (store_ok J3 hN hj ly rw' (fun t2 J4 => ?_) fy)))
  refine assignInOrder_cons (wpAny_bindName (store_ok J4 hN hi lx rv (fun t3 J5 => assignInOrder_nil (wpAny_pure ?_)) fx))
  rw [List.set_comm _ _ (Ne.symm hij)] at J5
  exact ⟨_, G1, J5, qq⟩
theorem ps_parL3 {i j l : Nat} {x y z : Str} {ta : TA} {px py pz pt : Pos} {kt k2 pt2} (hc : X.calm = true) (hN : X.N.Nodup) (hi : X.N[i]? = some x) (hj : X.N[j]? = some y) (hl : X.N[l]? = some z) (hij : i ≠ j) (hil : i ≠ l) (hjl : j ≠ l)
    (lx : Loc X.env.scope x) (fx : X.fn x = true ∨ X.env.scope.names.lookup x = some .local) (ly : Loc X.env.scope y) (fy : X.fn y = true ∨ X.env.scope.names.lookup y = some .local) (lz : Loc X.env.scope z) (fz : X.fn z = true ∨ X.env.scope.names.lookup z = some .local) (ha : PA X [a, b, c] ta)
    (hw : swappedStores [.Tuple [.Name x px, .Name y py, .Name z pz] kt pt] (.Tuple [a, b, c] k2 pt2) X.env = pure (some [x, y, z])) (hs : swapsWithSole [.Tuple [.Name x px, .Name y py, .Name z pz] kt pt] (.Tuple [a, b, c] k2 pt2) pos.line X.env = pure false) :
    PS X (.Assign [.Tuple [.Name x px, .Name y py, .Name z pz] kt pt] (.Tuple [a, b, c] k2 pt2) pos) (tPar3 i j l ta) := by
  refine ⟨fun pins s σ H D I h => ?_⟩
  rw [exec_Assign_arm]
  refine wpAny_bind (wpAny_standAt ?_)
  rw [hs]
  refine wpAny_bind (wpAny_pure ?_)
  rw [if_neg (by decide)]
  refine wpAny_bind (Tuple_ (thn (ha.run _ pins s σ H _ I h) fun ws t1 ⟨vs, G1, J1, rr, qq⟩ => ?_))
  obtain ⟨v1, v2, v3, ev, qq⟩ := qq
  subst ev
  obtain ⟨n1, n2, n3, rfl, k1, k2', k3⟩ : ∃ n1 n2 n3, ws = [n1, n2, n3] ∧ RelV v1 n1 ∧ RelV v2 n2 ∧ RelV v3 n3 := by
    cases rr with | cons p q => cases q with | cons p' q' => cases q' with | cons p'' q'' => cases q'' with | nil => exact ⟨_, _, _, rfl, p, p', p''⟩
  refine wpAny_newObj_type ?_ (by show 3 ≤ sizeLine; decide)
  have J2 : Inv X pins σ G1 { t1 with heap := t1.heap.push { cls := .type "tuple", data := .seq [n1, n2, n3].toArray } } := J1.kept (t' := t1.toks) fun d o ed => Heap.get?_push_of_some _ ed
  rw [hw]
  refine wpAny_bind (wpAny_pure ?_)
  show wpAny (model X.prog X.w) X.A (do rule "assign.swapped-stores"; let its ← unpackItems (.ref t1.heap.objs.size) 3 none; assignInOrder [fun u => bindName X.env z u, fun u => bindName X.env y u, fun u => bindName X.env x u] its.reverse; pure Flow.next) _ _ _
  refine wpAny_bind (wpAny_rule (wpAny_bind (unpackItems_tuple (items := #[n1, n2, n3]) (J1.ok.hd hc) (IsTup.new t1.heap _) fun g hg => ?_)))
  have J3 := J2.kept (h' := g) (t' := t1.toks) fun d o ed => hg d o (Nat.ne_of_lt (Heap.lt_size ed)) ed
  show wpAny _ _ (assignInOrder [fun u => bindName X.env z u, fun u => bindName X.env y u, fun u => bindName X.env x u] [n3, n2, n1] >>= fun _ => pure Flow.next) _ _ _
  refine wpAny_bind (assignInOrder_cons (wpAny_bindName (store_ok J3 hN hl lz k3 (fun t2 J4 => ?_) fz)))
  refine assignInOrder_cons (wpAny_bindName (store_ok J4 hN hj ly k2' (fun t3 J5 => ?_) fy))
  refine assignInOrder_cons (wpAny_bindName (store_ok J5 hN hi lx k1 (fun t4 J6 => assignInOrder_nil (wpAny_pure ?_)) fx))
  rw [List.set_comm _ _ (Ne.symm hjl), List.set_comm _ _ (Ne.symm hil), List.set_comm _ _ (Ne.symm hij)] at J6
  exact ⟨_, G1, J6, qq⟩
/-- a name of the frame -/
structure Nm (X : Cx) (i : Nat) (x : Str) : Prop where
  ix : X.N[i]? = some x
  loc : Loc X.env.scope x
  fn : X.fn x = true ∨ X.env.scope.names.lookup x = some .local
theorem wpS_p2 {i j : Nat} {x y : Str} {px py pt : Pos} {kt k2 : Nat} {pt2 : Pos} (hN : X.N.Nodup) (nx : Nm X i x) (ny : Nm X j y) (hij : i ≠ j) (hc : X.calm = true) (hw : swappedStores [.Tuple [.Name x px, .Name y py] kt pt] (.Tuple [a, b] k2 pt2) X.env = pure (some [x, y]))
    (hs : swapsWithSole [.Tuple [.Name x px, .Name y py] kt pt] (.Tuple [a, b] k2 pt2) pos.line X.env = pure false) (h : wpA X Tb [a, b] δ fun ds => ∃ d e, ds = [d, e] ∧ R.nx ((δ.set i (some (.d d))).set j (some (.d e)))) : wpS X Tb (.Assign [.Tuple [.Name x px, .Name y py] kt pt] (.Tuple [a, b] k2 pt2) pos) δ R := fun B O0 M Lk σ τ H I =>
  sem_s (ps_parL hc hN nx.ix ny.ix hij nx.loc nx.fn ny.loc ny.fn pa_sem hw hs) (h B O0 M Lk σ τ H I _ fun ps H' J q => by
    obtain ⟨d, e', ed, q⟩ := q
    obtain ⟨O, J⟩ := J
    obtain ⟨J0, r⟩ := J.popA
    rw [ed] at r
    obtain ⟨v, u, ev, rv, ru⟩ := r.two'
    exact ⟨v, u, ev, _, ⟨O, (J0.set (j := i) rv).set (j := j) ru⟩, q⟩)
theorem wpS_p3 {i j l : Nat} {x y z : Str} {px py pz pt : Pos} {kt k2 : Nat} {pt2 : Pos} (hN : X.N.Nodup) (nx : Nm X i x) (ny : Nm X j y) (nz : Nm X l z) (hij : i ≠ j) (hil : i ≠ l) (hjl : j ≠ l) (hc : X.calm = true) (hw : swappedStores [.Tuple [.Name x px, .Name y py, .Name z pz] kt pt] (.Tuple [a, b, c] k2 pt2) X.env = pure (some [x, y, z]))
    (hs : swapsWithSole [.Tuple [.Name x px, .Name y py, .Name z pz] kt pt] (.Tuple [a, b, c] k2 pt2) pos.line X.env = pure false) (h : wpA X Tb [a, b, c] δ fun ds => ∃ d e f, ds = [d, e, f] ∧ R.nx (((δ.set i (some (.d d))).set j (some (.d e))).set l (some (.d f)))) : wpS X Tb (.Assign [.Tuple [.Name x px, .Name y py, .Name z pz] kt pt] (.Tuple [a, b, c] k2 pt2) pos) δ R := fun B O0 M Lk σ τ H I =>
  sem_s (ps_parL3 hc hN nx.ix ny.ix nz.ix hij hil hjl nx.loc nx.fn ny.loc ny.fn nz.loc nz.fn pa_sem hw hs) (h B O0 M Lk σ τ H I _ fun ps H' J q => by
    obtain ⟨d, e', f, ed, q⟩ := q
    obtain ⟨O, J⟩ := J
    obtain ⟨J0, r⟩ := J.popA
    rw [ed] at r
    obtain ⟨v, u, w, ev, rv, ru, rw'⟩ : ∃ v u w, ps.map (·.1) = [v, u, w] ∧ Rp (vis O H') v d ∧ Rp (vis O H') u e' ∧ Rp (vis O H') w f := by
      generalize hg : ps.map (·.1) = vs at r
      cases r with | cons h r => cases r with | cons h2 r => cases r with | cons h3 r => cases r with | nil => exact ⟨_, _, _, rfl, h, h2, h3⟩
    exact ⟨v, u, w, ev, _, ⟨O, ((J0.set (j := i) rv).set (j := j) ru).set (j := l) rw'⟩, q⟩)
/-- x, y = [], [] -/
theorem wpS_p2LL {i j : Nat} {x y : Str} {px py pt : Pos} {kt k2 : Nat} {pt2 q1 q2 : Pos} (hN : X.N.Nodup) (nx : Nm X i x) (ny : Nm X j y) (hij : i ≠ j) (hc : X.calm = true) (hw : swappedStores [.Tuple [.Name x px, .Name y py] kt pt] (.Tuple [.List [] q1, .List [] q2] k2 pt2) X.env = pure (some [x, y]))
    (hs : swapsWithSole [.Tuple [.Name x px, .Name y py] kt pt] (.Tuple [.List [] q1, .List [] q2] k2 pt2) pos.line X.env = pure false) (h : R.nx ((δ.set i (some (.own (.lst [])))).set j (some (.own (.lst []))))) : wpS X Tb (.Assign [.Tuple [.Name x px, .Name y py] kt pt] (.Tuple [.List [] q1, .List [] q2] k2 pt2) pos) δ R := fun B O0 M Lk σ τ H I => by
  refine sem_s (ps_parL hc hN nx.ix ny.ix hij nx.loc nx.fn ny.loc ny.fn (pa_cons (pe_lst pa_nil) (pa_cons (pe_lst pa_nil) pa_nil rfl) rfl) hw hs) ?_
  obtain ⟨O, I⟩ := I
  refine ⟨Nat.zero_le _, fun p hp => ⟨Nat.zero_le _, fun q hq => ⟨_, _, rfl, _, ⟨_, (I.own (j := i) hp .nil).own (j := j) hq .nil⟩, h⟩⟩⟩
theorem wpS_post {st : Stmt} {Q : Dl → Prop} (h : wpS X Tb st δ ⟨Q, R.rt, R.bk, R.ct⟩) (hQ : ∀ δ', Q δ' → R.nx δ') : wpS X Tb st δ R := fun B O0 M Lk σ τ H I => by
  refine semS_le ?_ (h B O0 M Lk σ τ H I)
  exact ⟨fun _ _ ⟨δ', J, q⟩ => ⟨δ', J, hQ δ' q⟩, fun _ _ q => q, fun _ _ q => q, fun _ _ q => q⟩
/-! ### sorted(d) -/
theorem keysK {H : Hp} : ∀ {kvs : List (Key × V)} {ds : List (D × D)}, RpK H kvs ds → ds.map (·.1) = (kvs.map (·.1)).map kD
  | _, _, .nil => rfl
  | _, _, .cons _ r => by rw [List.map_cons, List.map_cons, List.map_cons, keysK r]
theorem inr_keys : ∀ {ks : List Key} {xs : List Str}, ks.map kD = xs.map PyData.str → ks = xs.map Sum.inr
  | [], [], _ => rfl
  | [], _ :: _, h => by cases h
  | _ :: _, [], h => by cases h
  | k :: ks, x :: xs, h => by
    rw [List.map_cons, List.map_cons] at h
    obtain ⟨h1, h2⟩ := List.cons.inj h
    rw [List.map_cons, inr_keys h2, kD_inj (a := k) (b := .inr x) h1]
theorem rpStrs {H : Hp} : ∀ ys : List Str, RpA H (ys.map V.str) (ys.map PyData.str)
  | [] => .nil
  | y :: ys => .cons (.str y) (rpStrs ys)
def sortR : List D → (D → Prop) → Prop := fun ds P => ∃ (ks : List (D × D)) (xs : List Str), ds = [.dict ks] ∧ ks.map (·.1) = xs.map .str ∧ xs.length < 64 ∧ ∀ ys : List Str, ys.Perm xs → P (.list (ys.map .str))
theorem ok_sortD : OkC X Tb (fun xs H Q => ∃ (a : Addr) (kvs : List (Key × V)) (ks : List Str), xs = [.ref a] ∧ Rd H a (.dK kvs) ∧ kvs.map (·.1) = ks.map Sum.inr ∧ ks.length < 64 ∧ ∀ (ys : List Str) (p : Addr), ys.Perm ks → PyProof.Rows.sortedS ys = true → H p = none → Q (.ref p) (upd H p (.lst (ys.map V.str)))) sortR := by
  intro B O0 M Lk O δ σ τ H vs ds P I r h Q q
  obtain ⟨ks, xs, rfl, hk, hl, h⟩ := h
  obtain ⟨v, rfl, rv⟩ := r.one'
  have hm : isM ks = false := by
    cases ks with
    | nil => rfl
    | cons p r =>
      cases xs with
      | nil => cases hk
      | cons x xr =>
        rw [List.map_cons, List.map_cons, List.cons.injEq] at hk
        obtain ⟨k, d⟩ := p
        have : k = .str x := hk.1
        rw [this]
        rfl
  obtain ⟨a, kvs, rfl, hd, _, rk⟩ := rv.dict' hm
  refine ⟨a, kvs, xs, rfl, (vis_all).dic a kvs hd, inr_keys ?_, hl, fun ys p hp _ hn => q _ _ _ ⟨O, I.newLst (rpStrs ys) hn⟩ (h ys hp)⟩
  rw [← keysK rk, hk]
/-! ### xs[::-1] -/
theorem RpA.rev {H : Hp} : ∀ {vs : List V} {ds : List D}, RpA H vs ds → RpA H vs.reverse ds.reverse
  | _, _, .nil => .nil
  | _, _, .cons h r => by
    rw [List.reverse_cons, List.reverse_cons]
    exact (RpA.rev r).append (RpA.one h)
theorem wpE_rev {k : Nat} {p1 p2 p3 : Pos} (h : wpE X Tb a δ fun d => ∃ ds, d = .list ds ∧ P (.list ds.reverse)) : wpE X Tb (.Subscript a (.Slice none none (some (.UnaryOp .USub (.Constant (.int 1) k p1) p2)) p3) pos) δ P := fun B O0 M Lk σ τ H I Q q =>
  sem_e (pe_revL pe_sem) (h B O0 M Lk σ τ H I _ fun v d H' J h1 => by
    obtain ⟨ds, rfl, h1⟩ := h1
    obtain ⟨O, J⟩ := J
    obtain ⟨J0, r⟩ := J.pop1
    obtain ⟨p, xs, rfl, hp, rp⟩ := r.list'
    exact ⟨p, xs, rfl, SqL.of (vis_some hp).2, fun t ht => q _ _ _ ⟨O, J0.newLst rp.rev ht⟩ h1⟩)
/-! ### a list of the frame's own, lent for one expression -/
def blank (δ : Dl) : Dl := δ.map fun s => match s with
  | some (.own _) => none
  | s => s
def scalD : D → Bool
  | .none => true
  | .bool _ => true
  | .int _ => true
  | .str _ => true
  | _ => false
theorem blank_get {δ : Dl} {i : Nat} {sl : Sl} (h : (blank δ)[i]? = some (some sl)) : δ[i]? = some (some sl) ∧ ∀ o, sl ≠ .own o := by
  unfold blank at h
  rw [List.getElem?_map] at h
  cases e : δ[i]? with
  | none => rw [e] at h; cases h
  | some s =>
    rw [e] at h
    cases s with
    | none => cases h
    | some s =>
      cases s with
      | d d => cases h; exact ⟨rfl, fun _ z => nomatch z⟩
      | own o => cases h
      | scr ns => cases h; exact ⟨rfl, fun _ z => nomatch z⟩
theorem AtO.lend {G : Glo} {B : Hp} {O0 M O : List Addr} {Lk : Lks} {σ : L2.St} {τ : List (V × D)} {H : Hp} {ds : List D} {j : Nat} (I : AtO G B O0 M Lk O δ σ τ H) (hj : δ[j]? = some (some (.own (.lst ds)))) : ∃ O', At G H O' [] ([], []) ((blank δ).set j (some (.d (.list ds)))) σ τ H := by
  obtain ⟨O', I'⟩ := I.thaw hj
  have hlt : j < δ.length := (List.getElem?_eq_some_iff.mp hj).1
  have hb : (blank δ).length = δ.length := by unfold blank; rw [List.length_map]
  have key : ∀ (i : Nat) (sl : Sl), ((blank δ).set j (some (.d (.list ds))))[i]? = some (some sl) → (δ.set j (some (.d (.list ds))))[i]? = some (some sl) ∧ ∀ o, sl ≠ .own o := fun i sl e => by
    by_cases h : j = i
    · subst h
      rw [List.getElem?_set_self (by rw [hb]; exact hlt)] at e
      rw [List.getElem?_set_self hlt]
      exact ⟨e, fun o z => by rw [z] at e; cases e⟩
    · rw [List.getElem?_set_ne h] at e ⊢
      exact blank_get e
  refine ⟨O', O', fun _ h => h, (fun _ z => nomatch z), I'.live, fun p hp => .inl hp, I'.live, Gr.refl _ _ _, (fun _ z => nomatch z), (fun _ z => nomatch z), (fun _ z => nomatch z), I'.tabs, I'.tmp, ?_, fun i sl e => ?_, fun i k o o' p e1 e2 e3 e4 => ?_, (fun _ z => nomatch z), fun a od u e => .inl (by rw [e]; exact fun z => nomatch z), .none fun i o e => absurd rfl ((key i _ e).2 o)⟩
  · rw [List.length_set, hb]
    exact I.len
  · obtain ⟨e1, e2⟩ := key i sl e
    obtain ⟨v, h1, h2⟩ := I'.slots i sl e1
    refine ⟨v, h1, ?_⟩
    cases sl with
    | d d => exact h2
    | own o => exact absurd rfl (e2 o)
    | scr ns => exact h2
  · exact absurd rfl ((key i _ e1).2 o)
theorem scal_rp {O O' : List Addr} {H : Hp} {v : V} {d : D} (h : Rp (vis O H) v d) (s : scalD d = true) : Rp (vis O' H) v d := by
  cases h with
  | non => exact .non
  | bl b => exact .bl b
  | int i => exact .int i
  | str x => exact .str x
  | _ => cases s
theorem wpE_lend {ds : List D} (j : Nat) (hj : δ[j]? = some (some (.own (.lst ds)))) (h : wpE X Tb e ((blank δ).set j (some (.d (.list ds)))) fun d => scalD d = true ∧ P d) : wpE X Tb e δ P := fun B O0 M Lk σ τ H I Q q => by
  obtain ⟨O, I⟩ := I
  obtain ⟨O', J⟩ := I.lend hj
  refine h H O' [] ([], []) σ τ H J Q fun v d H' K hd => ?_
  obtain ⟨O2, K⟩ := K
  have g : Gr [] [] H H' := K.gr
  have nf : Nf H H' := fun a od u e => (K.nof a od u e).resolve_right (fun z => nomatch z)
  have r := K.tmp _ List.mem_cons_self
  have I2 := I.grow g (fun _ z => nomatch z) (fun _ z => nomatch z) (fun _ z => nomatch z) (fun _ z => nomatch z) nf
  exact q v d H' ⟨O, I2.push (scal_rp r hd.1)⟩ hd.2
theorem wpT_lend {ds : List D} {P : Bool → Prop} (j : Nat) (hj : δ[j]? = some (some (.own (.lst ds)))) (h : wpT X Tb e ((blank δ).set j (some (.d (.list ds)))) P) : wpT X Tb e δ P := fun B O0 M Lk σ τ H I Q q => by
  obtain ⟨O, I⟩ := I
  obtain ⟨O', J⟩ := I.lend hj
  refine h H O' [] ([], []) σ τ H J Q fun b H' K hd => ?_
  obtain ⟨O2, K⟩ := K
  have g : Gr [] [] H H' := K.gr
  have nf : Nf H H' := fun a od u e => (K.nof a od u e).resolve_right (fun z => nomatch z)
  exact q b H' ⟨O, I.grow g (fun _ z => nomatch z) (fun _ z => nomatch z) (fun _ z => nomatch z) (fun _ z => nomatch z) nf⟩ hd
end
end DL

set_option Elab.async false
set_option linter.all false
set_option maxRecDepth 100000
set_option maxHeartbeats 2000000
/-! DL25: data that == compares. -/
namespace DL
open PySem PySem.Spec L2
structure Cl (p : Nat) (d : D) : Prop where
  lay : PyData.canLay0 d = true
  dp : PyData.depth d ≤ p
  nd : nd d = true
structure ClA (p : Nat) (ds : List D) : Prop where
  lay : PyData.canLayAll0 ds = true
  dp : PyData.depthAll ds ≤ p
  nd : ndA ds = true
theorem cl_none (p : Nat) : Cl p .none := ⟨by simp [PyData.canLay0], by simp [PyData.depth], rfl⟩
theorem cl_bool (p : Nat) (b : Bool) : Cl p (.bool b) := ⟨by simp [PyData.canLay0], by simp [PyData.depth], rfl⟩
theorem cl_int (p : Nat) (i : Int) : Cl p (.int i) := ⟨by simp [PyData.canLay0], by simp [PyData.depth], rfl⟩
theorem cl_str {n : Nat} {x : Str} (p : Nat) (h : VOk n x) : Cl p (.str x) := by
  refine ⟨?_, by simp [PyData.depth], rfl⟩
  simp only [PyData.canLay0]
  unfold PyData.strOk
  rw [← Array.all_toList]
  exact List.all_eq_true.mpr fun c hc => decide_eq_true (h.2 c hc)
theorem clA_nil (p : Nat) : ClA p [] := ⟨by simp [PyData.canLayAll0], by simp [PyData.depthAll], rfl⟩
theorem clA_cons {p : Nat} {d : D} {ds : List D} (h : Cl p d) (r : ClA p ds) : ClA p (d :: ds) := by
  refine ⟨?_, ?_, ?_⟩
  · simp only [PyData.canLayAll0, h.lay, r.lay, Bool.and_true]
  · simp only [PyData.depthAll]
    have := h.dp
    have := r.dp
    omega
  · show (nd d && ndA ds) = true
    rw [h.nd, r.nd]
    rfl
theorem cl_list {p : Nat} {ds : List D} (h : ClA p ds) : Cl (p + 1) (.list ds) := ⟨by simp only [PyData.canLay0]; exact h.lay, by simp only [PyData.depth]; have := h.dp; omega, h.nd⟩
theorem cl_tuple {p : Nat} {ds : List D} (h : ClA p ds) : Cl (p + 1) (.tuple ds) := ⟨by simp only [PyData.canLay0]; exact h.lay, by simp only [PyData.depth]; have := h.dp; omega, h.nd⟩
theorem clA_map {α : Type} {f : α → D} {p : Nat} : ∀ {xs : List α}, (∀ x ∈ xs, Cl p (f x)) → ClA p (xs.map f)
  | [], _ => clA_nil p
  | x :: xs, h => clA_cons (h x List.mem_cons_self) (clA_map fun y hy => h y (List.mem_cons_of_mem _ hy))
theorem Cl.shaped {p : Nat} {d : D} (h : Cl p d) (hp : p ≤ 64) : SeqAt.shaped d = true := by
  unfold SeqAt.shaped
  rw [h.lay, Bool.true_and]
  exact decide_eq_true (Nat.le_trans h.dp hp)
theorem r_eqLL {f : Bool → Bool} {xs ys : List D} {P : D → Prop} (hx : ClA 40 xs) (hy : ClA 40 ys) (h : P (.bool (f (PyData.eqv (.list xs) (.list ys))))) : eqR f (.list xs) (.list ys) P :=
  ⟨⟨hx.nd, hy.nd, (cl_list hx).shaped (by decide), (cl_list hy).shaped (by decide)⟩, h⟩
theorem r_eqTT {f : Bool → Bool} {xs ys : List D} {P : D → Prop} (hx : ClA 40 xs) (hy : ClA 40 ys) (h : P (.bool (f (PyData.eqv (.tuple xs) (.tuple ys))))) : eqR f (.tuple xs) (.tuple ys) P :=
  ⟨⟨hx.nd, hy.nd, (cl_tuple hx).shaped (by decide), (cl_tuple hy).shaped (by decide)⟩, h⟩
theorem eqvA_nil (xs : List D) : PyData.eqv (.list xs) (.list []) = xs.isEmpty := by
  cases xs <;> simp [PyData.eqv, PyData.eqvAll]
theorem eqv_map {α : Type} [DecidableEq α] {f : α → D} (h : ∀ a b, PyData.eqv (f a) (f b) = decide (a = b)) : ∀ xs ys : List α, PyData.eqvAll (xs.map f) (ys.map f) = decide (xs = ys)
  | [], [] => by simp [PyData.eqvAll]
  | [], _ :: _ => by simp [PyData.eqvAll]
  | _ :: _, [] => by simp [PyData.eqvAll]
  | x :: xs, y :: ys => by
    simp only [List.map_cons, PyData.eqvAll, h, eqv_map h xs ys, List.cons.injEq, Bool.decide_and]
section
variable {X : Cx} {Tb : List Addr} {δ : Dl} {e : Expr} {pos p : Pos}
/-- list(xs) -/
theorem wpF_list {P : List D → Prop} (hm : X.mg "list" = none) (h : wpE X Tb e δ fun d => ∃ ds, d = .list ds ∧ P ds) (hg : Gl X "list" := by rfl) (he : starEach [e] X.env = (false, eval e X.env) :: starEach [] X.env := by rfl) (hpl : (backTo pos (starEach [] X.env)).any (·.1) = false := by rfl) : wpF X Tb (.Call (.Name "list" p) [e] [] pos) δ P := fun B O0 M Lk σ τ H I Q q =>
  sem_e (pe_callTy call_list_of hg hm PyProof.Rows.boot_list (pa_cons pe_sem pa_nil he) (by decide) (by decide) he hpl) (h B O0 M Lk σ τ H I _ fun v d H' J h1 => by
    obtain ⟨ds, rfl, h1⟩ := h1
    obtain ⟨O, J⟩ := J
    obtain ⟨J0, r⟩ := J.pop1
    obtain ⟨a, xs, rfl, ha, rx⟩ := r.list'
    exact ⟨a, xs, rfl, .inl (SqL.of (vis_some ha).2), fun l hl => q O xs ds l H' J0 hl rx h1⟩)
end
end DL

set_option Elab.async false
set_option linter.all false
set_option maxRecDepth 100000
set_option maxHeartbeats 1000000
/-! SD3: rules for sets of ints. -/
namespace SD
open PySem PySem.Spec PyProof.Rows L2
/-- a set of just the ints L -/
def SetI (a : Addr) (L : List Int) : HO := .ext fun h => SetP h a L
theorem setI_ok {P : Program} {w : World} {H : Hp} {h : Heap} {a : Addr} {L : List Int} (x : SetP h a L) : ObjOk P w H h a (SetI a L) := by
  refine ⟨x, ?_, fun h1 h2 y k => y.at k⟩
  obtain ⟨_, o, _, _, _, v, _⟩ := x
  exact ⟨o, v.ob⟩
theorem firstMet_mem : ∀ (ns acc : List Int) (k : Int), k ∈ ns.foldl step_dedup acc ↔ k ∈ acc ∨ k ∈ ns
  | [], acc, k => by simp
  | n :: ns, acc, k => by
    rw [List.foldl_cons, firstMet_mem ns]
    unfold step_dedup
    split
    · rename_i h
      rw [List.any_eq_true] at h
      obtain ⟨x, hx, e⟩ := h
      have e : x = n := eq_of_beq e
      subst e
      constructor
      · rintro (h | h)
        · exact .inl h
        · exact .inr (List.mem_cons_of_mem _ h)
      · rintro (h | h)
        · exact .inl h
        · rcases List.mem_cons.mp h with e | h
          · rw [e]; exact .inl hx
          · exact .inr h
    · rw [List.mem_append, List.mem_singleton, List.mem_cons, or_assoc]
theorem firstMet_nd : ∀ (ns acc : List Int), acc.Nodup → (ns.foldl step_dedup acc).Nodup
  | [], acc, h => h
  | n :: ns, acc, h => by
    rw [List.foldl_cons]
    refine firstMet_nd ns _ ?_
    unfold step_dedup
    split
    · exact h
    · rename_i hn
      refine List.nodup_append.mpr ⟨h, by simp, fun p hp q hq e => hn ?_⟩
      rw [List.mem_singleton.mp hq] at e
      rw [List.any_eq_true]
      exact ⟨p, hp, by rw [e]; exact beq_self_eq_true n⟩
theorem getD_range (ns : List Int) : (List.range ns.length).map (fun i => ns.getD i 0) = ns := by
  apply List.ext_getElem?
  intro i
  rw [List.getElem?_map]
  by_cases h : i < ns.length
  · rw [List.getElem?_range h]
    simp [h]
  · rw [List.getElem?_eq_none (by rw [List.length_range]; omega), List.getElem?_eq_none (by omega)]
    rfl
section
variable {X : Cx}
def rSetI (K : PySem.W.Frag) : List V → Hp → VK → Prop := fun xs H Q => ∃ (l : Addr) (ns : List Int), xs = [V.ref l] ∧ SqL K H l (ns.map V.int) ∧ ns.length + 1 < scanBound ∧
  ∀ (p : Addr) (L : List Int), H p = none → L.Nodup → (∀ k, k ∈ L ↔ k ∈ ns) → L.length ≤ ns.length → Q (.ref p) (upd H p (SetI p L))
theorem cr_setI (hc : X.calm = true) : CallR X (.type "set") (rSetI X.K) := by
  intro pins s σ H vs us Q I r h
  obtain ⟨l, ns, rfl, hs, hz, q⟩ := h
  obtain ⟨its, rv, hl, _⟩ := I.list hs
  rw [Vals.ref1 r]
  have hi := rv.ints
  have hlen : its.toArray.size = ns.length := by rw [List.size_toArray, hi.length]
  refine call_set_list (I.ok.hd hc) hl.isList (by simpa using hi) (by rw [hlen]; exact hz) fun h' tk hS hk => ?_
  have e0 : firstMet (fun i => ns.getD i 0) its.toArray.size = ns.foldl step_dedup [] := by
    unfold firstMet
    rw [hlen, getD_range]
  rw [e0] at hS
  have hP : SetP h' s.heap.objs.size (ns.foldl step_dedup []) := by
    refine SetP.of (P := X.prog) (w := X.w) hS (firstMet_nd ns [] List.nodup_nil) rfl fun k => ?_
    rw [List.any_eq_true]
    exact ⟨fun ⟨x, hx, e⟩ => by rw [← eq_of_beq e]; exact hx, fun hk => ⟨k, hk, beq_self_eq_true k⟩⟩
  refine ⟨.ref _, upd H s.heap.objs.size (SetI s.heap.objs.size (ns.foldl step_dedup [])), I.laid (t' := tk) (fun b o e => hk b o (Heap.lt_size e) e) (Nat.le_refl _) (setI_ok hP), rfl, q _ _ (I.hok.fresh (Nat.le_refl _)) (firstMet_nd ns [] List.nodup_nil) (fun k => by rw [firstMet_mem]; simp) ?_⟩
  have := firstMet_length_le (fun i => ns.getD i 0) its.toArray.size
  rw [e0, hlen] at this
  exact this
def rSubI : R2 := fun x y H Q => ∃ (a b : Addr) (L M : List Int), x = .ref a ∧ y = .ref b ∧ H a = some (SetI a L) ∧ H b = some (SetI b M) ∧ L.length + 1 < scanBound ∧ (L.length ≤ 4 ∨ L.length / 4 ≤ M.length) ∧
  ∀ (p : Addr) (N : List Int), H p = none → (∀ k, k ∈ N ↔ k ∈ L ∧ k ∉ M) → Q (.ref p) (upd H p (SetI p N))
theorem op_subI : OpR X (binaryOp .Sub) rSubI := by
  intro pins s σ H x y v u Q I rx ry h
  obtain ⟨a, b, L, M, rfl, rfl, ha, hb, hz, hs, q⟩ := h
  cases (show v = Value.ref a from rx)
  cases (show u = Value.ref b from ry)
  have xa : SetP s.heap a L := (I.hok a _ ha).1
  have xb : SetP s.heap b M := (I.hok b _ hb).1
  refine sub_set xa xb hz hs fun h' r N h1 h2 h3 h4 h5 => ?_
  exact ⟨.ref r, upd H r (SetI r N), I.laid (t' := s.toks) h2 h1 (setI_ok h4), rfl, q r N (I.hok.fresh h1) h3⟩
def rLenI : List V → Hp → VK → Prop := fun xs H Q => ∃ (a : Addr) (L : List Int), xs = [V.ref a] ∧ H a = some (SetI a L) ∧ Q (.int L.length) H
theorem cr_lenI : CallR X (.builtin "len") rLenI := by
  intro pins s σ H vs us Q I r h
  obtain ⟨a, L, rfl, ha, q⟩ := h
  rw [Vals.ref1 r]
  obtain ⟨ks, o, es, ep, t, v, p⟩ : SetP s.heap a L := (I.hok a _ ha).1
  have hl : es.size = L.length := by rw [← Array.length_toList, v.ke.length, p.length_eq]
  have hb := v.sz
  have e1 : scanBound = 4096 := rfl
  refine call_len_set v.ob v.ex v.da v.ft (by omega) ?_
  rw [hl]
  exact ⟨.int L.length, H, I.tok _, ⟨_, rfl⟩, q⟩
end
end SD

set_option Elab.async false
set_option linter.all false
set_option maxRecDepth 100000
set_option maxHeartbeats 2000000
/-! DL26: len(set(xs)), len(set(xs) - set(ys)). -/
namespace DL
open PySem PySem.Spec L2 SD
theorem boot_set' : bootBuiltins "set" = some (.type "set") := by decide +kernel
theorem ints_of {H : Hp} : ∀ {xs : List V} {ns : List Int}, RpA H xs (ns.map PyData.int) → xs = ns.map V.int
  | [], [], _ => rfl
  | _, [], h => by cases h; rfl
  | _, n :: ns, h => by
    rw [List.map_cons] at h
    cases h with
    | cons h r => rw [h.int', ints_of r]; rfl
section
variable {X : Cx} {Tb : List Addr} {δ : Dl} {a b e : Expr} {pos p1 p2 p3 p4 : Pos} {P : D → Prop}
/-- len(set(xs)) -/
theorem wpE_lenSet (hc : X.calm = true) (hl : X.mg "len" = none) (hs : X.mg "set" = none) (h : wpE X Tb e δ fun d => ∃ ns : List Int, d = .list (ns.map .int) ∧ ns.length ≤ 4000 ∧ ∀ L : List Int, L.Nodup → (∀ k, k ∈ L ↔ k ∈ ns) → L.length ≤ ns.length → P (.int (L.length : Nat)))
    (g1 : Gl X "len" := by rfl) (g2 : Gl X "set" := by rfl) (he : starEach [e] X.env = (false, eval e X.env) :: starEach [] X.env := by rfl) (hpl : (backTo p2 (starEach [] X.env)).any (·.1) = false := by rfl)
    (he2 : starEach [.Call (.Name "set" p1) [e] [] p2] X.env = (false, eval (.Call (.Name "set" p1) [e] [] p2) X.env) :: starEach [] X.env := by rfl) (hpl2 : (backTo pos (starEach [] X.env)).any (·.1) = false := by rfl) :
    wpE X Tb (.Call (.Name "len" p3) [.Call (.Name "set" p1) [e] [] p2] [] pos) δ P := fun B O0 M Lk σ τ H I Q q =>
  sem_e (pe_callB cr_lenI g1 hl boot_len' (pa_cons (pe_callTy (cr_setI hc) g2 hs boot_set' (pa_cons pe_sem pa_nil he) (by decide) (by decide) he hpl) pa_nil he2) (by decide) (by decide) he2 hpl2) (h B O0 M Lk σ τ H I _ fun v d H' J h1 => by
    obtain ⟨ns, rfl, hz, h1⟩ := h1
    obtain ⟨O, J⟩ := J
    obtain ⟨J0, r⟩ := J.pop1
    obtain ⟨l, xs, rfl, hl', rx⟩ := r.list'
    rw [ints_of rx] at hl'
    refine ⟨l, ns, rfl, SqL.of (vis_some hl').2, Nat.lt_of_le_of_lt (Nat.add_le_add_right hz 1) (by decide), fun p L hp h2 h3 h4 => ⟨p, L, rfl, upd_same, ?_⟩⟩
    obtain ⟨J2, _⟩ := J0.alloc (o := SetI p L) hp
    exact q _ _ _ ⟨O, J2.push (.int _)⟩ (h1 L h2 h3 h4))
/-- len(set(xs) - set(ys)) -/
theorem wpE_lenSub {p5 p6 p7 p8 : Pos} (hc : X.calm = true) (hl : X.mg "len" = none) (hs : X.mg "set" = none) (h : wpE X Tb a δ fun d => ∃ ns : List Int, d = .list (ns.map .int) ∧ ns.length ≤ 4000 ∧ wpE X Tb b δ fun d2 => ∃ ms : List Int, d2 = .list (ms.map .int) ∧ ms.length ≤ 4000 ∧ ns.length ≤ 4 ∧
      ∀ N : List Int, (∀ k, k ∈ N ↔ k ∈ ns ∧ k ∉ ms) → P (.int (N.length : Nat)))
    (g1 : Gl X "len" := by rfl) (g2 : Gl X "set" := by rfl) (hea : starEach [a] X.env = (false, eval a X.env) :: starEach [] X.env := by rfl) (heb : starEach [b] X.env = (false, eval b X.env) :: starEach [] X.env := by rfl) (hpa : (backTo p2 (starEach [] X.env)).any (·.1) = false := by rfl) (hpb : (backTo p6 (starEach [] X.env)).any (·.1) = false := by rfl)
    (he2 : starEach [.BinOp (.Call (.Name "set" p1) [a] [] p2) .Sub (.Call (.Name "set" p5) [b] [] p6) p7] X.env = (false, eval (.BinOp (.Call (.Name "set" p1) [a] [] p2) .Sub (.Call (.Name "set" p5) [b] [] p6) p7) X.env) :: starEach [] X.env := by rfl) (hpl2 : (backTo pos (starEach [] X.env)).any (·.1) = false := by rfl) :
    wpE X Tb (.Call (.Name "len" p3) [.BinOp (.Call (.Name "set" p1) [a] [] p2) .Sub (.Call (.Name "set" p5) [b] [] p6) p7] [] pos) δ P := fun B O0 M Lk σ τ H I Q q =>
  sem_e (pe_callB cr_lenI g1 hl boot_len' (pa_cons (pe_op op_subI (pe_callTy (cr_setI hc) g2 hs boot_set' (pa_cons pe_sem pa_nil hea) (by decide) (by decide) hea hpa) (pe_callTy (cr_setI hc) g2 hs boot_set' (pa_cons pe_sem pa_nil heb) (by decide) (by decide) heb hpb)) pa_nil he2) (by decide) (by decide) he2 hpl2) (h B O0 M Lk σ τ H I _ fun v d H' J h1 => by
    obtain ⟨ns, rfl, hz, h1⟩ := h1
    obtain ⟨O, J⟩ := J
    obtain ⟨J0, r⟩ := J.pop1
    obtain ⟨l, xs, rfl, hl', rx⟩ := r.list'
    rw [ints_of rx] at hl'
    refine ⟨l, ns, rfl, SqL.of (vis_some hl').2, Nat.lt_of_le_of_lt (Nat.add_le_add_right hz 1) (by decide), fun p L hp l1 l2 l3 => ?_⟩
    obtain ⟨J2, _, _⟩ := J0.hide (ob := SetI p L) hp
    refine h1 B O0 M (Lk.1, (p, SetI p L) :: Lk.2) σ τ _ ⟨_, J2⟩ _ fun v2 d2 H2 K h2 => ?_
    obtain ⟨ms, rfl, hy, h4, h2⟩ := h2
    obtain ⟨O2, K⟩ := K
    obtain ⟨K0, r2⟩ := K.pop1
    obtain ⟨l2', ys, rfl, hl2, ry⟩ := r2.list'
    rw [ints_of ry] at hl2
    have hp2 := (K0.hid _ List.mem_cons_self).1
    refine ⟨l2', ms, rfl, SqL.of (vis_some hl2).2, Nat.lt_of_le_of_lt (Nat.add_le_add_right hy 1) (by decide), fun p' M' hp' m1 m2 m3 => ?_⟩
    have hne : p ≠ p' := fun z => by rw [z, hp'] at hp2; cases hp2
    refine ⟨p, p', L, M', rfl, rfl, by rw [upd_ne hne]; exact hp2, upd_same, Nat.lt_of_le_of_lt (Nat.add_le_add_right (Nat.le_trans l3 hz) 1) (by decide), .inl (by omega), fun p'' N hn hN => ?_⟩
    refine ⟨p'', N, rfl, upd_same, ?_⟩
    obtain ⟨K2, _⟩ := K0.unhid.alloc (o := SetI p' M') hp'
    obtain ⟨K3, _⟩ := K2.alloc (o := SetI p'' N) hn
    exact q _ _ _ ⟨_, K3.push (.int _)⟩ (h2 N fun k => by rw [hN, l2, m2]))
end
end DL

set_option Elab.async false
set_option linter.all false
set_option maxRecDepth 100000
set_option maxHeartbeats 2000000
/-! DL27: pairs of ints: less, sorted. -/
namespace DL
open PySem PySem.Spec L2
section
variable {X : Cx} {Tb : List Addr} {δ : Dl}
def pairD (p : Int × Int) : D := .tuple [.int p.1, .int p.2]
def ltTR : D → D → (D → Prop) → Prop := fun d1 d2 P => ∃ p q : Int × Int, d1 = pairD p ∧ d2 = pairD q ∧ P (.bool (SrtO.lexB p q))
theorem lexLt_pair (p q : Int × Int) : HT.lexLt [p.1, p.2] [q.1, q.2] = SrtO.lexB p q := by
  unfold SrtO.lexB
  rw [HT.lexLt_cons, HT.lexLt_cons]
  by_cases e : p.1 = q.1
  · rw [if_pos e, if_pos e]
    by_cases e2 : p.2 = q.2
    · rw [if_pos e2]
      show false = decide _
      exact (decide_eq_false (by omega)).symm
    · rw [if_neg e2]
  · rw [if_neg e, if_neg e]
theorem pair_tup {H : Hp} {v : V} {p : Int × Int} (r : Rp H v (pairD p)) : ∃ a, v = .ref a ∧ H a = some (.tup [.int p.1, .int p.2]) := by
  obtain ⟨a, vs, rfl, ha, ra⟩ := Rp.tuple' r
  have e : vs = [V.int p.1, V.int p.2] := ints_of (ns := [p.1, p.2]) ra
  rw [e] at ha
  exact ⟨a, rfl, ha⟩
theorem ok_ltT : Ok2 X Tb (rLtT X.K) ltTR := by
  intro B O0 M Lk O δ σ τ H x y d1 d2 P I rx ry h Q q
  obtain ⟨p, p', rfl, rfl, h⟩ := h
  obtain ⟨a, rfl, ha⟩ := pair_tup rx
  obtain ⟨b, rfl, hb⟩ := pair_tup ry
  refine ⟨a, b, [p.1, p.2], [p'.1, p'.2], rfl, rfl, SqT.of (vis_some ha).2, SqT.of (vis_some hb).2, ?_⟩
  rw [lexLt_pair]
  exact q _ _ H ⟨O, I.push (.bl _)⟩ h
def sortPR : List D → (D → Prop) → Prop := fun ds P => ∃ ps : List (Int × Int), ds = [.list (ps.map pairD)] ∧ ∀ qs : List (Int × Int), qs.Perm ps → SrtO.Srtd SrtO.lexB qs → P (.list (qs.map pairD))
def kOf (H : Hp) : V → Int × Int
  | .ref a => match H a with
    | some (.tup [.int i, .int j]) => (i, j)
    | _ => (0, 0)
  | _ => (0, 0)
theorem pairs_of' {H : Hp} : ∀ {vs : List V} {ps : List (Int × Int)}, RpA H vs (ps.map pairD) → vs.map (kOf H) = ps ∧ ∀ x ∈ vs, ∃ t, x = V.ref t ∧ H t = some (.tup [.int (kOf H x).1, .int (kOf H x).2])
  | [], [], _ => ⟨rfl, fun _ z => nomatch z⟩
  | [], _ :: _, r => nomatch r
  | _ :: _, [], r => nomatch r
  | v :: vs, p :: ps, .cons h r => by
    obtain ⟨h1, h2⟩ := pairs_of' r
    obtain ⟨a, rfl, ha⟩ := pair_tup h
    have e : kOf H (.ref a) = p := by
      show (match H a with
        | some (.tup [.int i, .int j]) => (i, j)
        | _ => ((0, 0) : Int × Int)) = p
      rw [ha]
    refine ⟨by rw [List.map_cons, h1, e], fun x hx => ?_⟩
    rcases List.mem_cons.mp hx with rfl | hx
    · exact ⟨a, rfl, by rw [e]; exact ha⟩
    · exact h2 x hx
theorem rp_pairs {H : Hp} {k : V → Int × Int} : ∀ {vs : List V}, (∀ x ∈ vs, ∃ t, x = V.ref t ∧ H t = some (.tup [.int (k x).1, .int (k x).2])) → RpA H vs ((vs.map k).map pairD)
  | [], _ => .nil
  | v :: vs, h => by
    obtain ⟨t, e, ht⟩ := h v List.mem_cons_self
    refine .cons ?_ (rp_pairs fun x hx => h x (List.mem_cons_of_mem _ hx))
    have : Rp H (.ref t) (pairD (k v)) := .tup ht (.cons (.int _) (.cons (.int _) .nil))
    rw [e]
    rw [e] at this
    exact this
theorem ok_sortP : OkC X Tb (rSortedPO X.K) sortPR := by
  intro B O0 M Lk O δ σ τ H vs ds P I r h Q q
  obtain ⟨ps, rfl, h⟩ := h
  obtain ⟨v, rfl, rv⟩ := r.one'
  obtain ⟨a, xs, rfl, ha, rx⟩ := rv.list'
  obtain ⟨h1, h2⟩ := pairs_of' rx
  refine ⟨a, xs, kOf (vis O H), rfl, SqL.of (vis_some ha).2, fun x hx => ?_, fun ys p hs hb hn => ?_⟩
  · obtain ⟨t, e, ht⟩ := h2 x hx
    exact ⟨t, e, (vis_some ht).2⟩
  · have h3 : ∀ y ∈ ys, ∃ t, y = V.ref t ∧ vis O H t = some (.tup [.int (kOf (vis O H) y).1, .int (kOf (vis O H) y).2]) := fun y hy => h2 y (hb.perm.mem_iff.mp hy)
    refine q _ _ _ ⟨O, I.newLst (rp_pairs h3) hn⟩ (h _ ?_ (SrtO.srtd_map hs))
    rw [← h1]
    exact hb.perm.map _
/-- a list of pairs of which none is less than the one before it is found again by its items -/
theorem srt_uniq : ∀ {l m : List (Int × Int)}, SrtO.Srtd SrtO.lexB l → SrtO.Srtd SrtO.lexB m → l.Perm m → l = m
  | [], m, _, _, h => (List.Perm.eq_nil h.symm).symm
  | x :: l, [], _, _, h => absurd h.length_eq (by simp)
  | x :: l, y :: m, hl, hm, h => by
    have h1 : SrtO.lexB x y = false := by
      rcases List.mem_cons.mp (h.mem_iff.mp (List.mem_cons_self (a := x) (l := l))) with e | hx
      · rw [e]
        exact SrtO.lexB_no.mpr (by omega)
      · exact SrtO.srtd_head hm x hx
    have h2 : SrtO.lexB y x = false := by
      rcases List.mem_cons.mp (h.mem_iff.mpr (List.mem_cons_self (a := y) (l := m))) with e | hy
      · rw [e]
        exact SrtO.lexB_no.mpr (by omega)
      · exact SrtO.srtd_head hl y hy
    have e : x = y := by
      have a := SrtO.lexB_no.mp h1
      have b := SrtO.lexB_no.mp h2
      exact Prod.ext (by omega) (by omega)
    subst e
    rw [srt_uniq (List.pairwise_cons.mp hl).2 (List.pairwise_cons.mp hm).2 h.cons_inv]
end
end DL

set_option Elab.async false
set_option linter.all false
set_option maxRecDepth 100000
set_option maxHeartbeats 2000000
/-! DL28: a test in a frame without its last name (a generator whose own name is the name of a comprehension of the frame). -/
namespace DL
open PySem PySem.Spec L2
abbrev cutN (X : Cx) (N0 : List Str) : Cx := { X with N := N0 }
section
variable {X : Cx} {N0 : List Str} {y : Str} {pins : List (Addr × Obj)} {σ0 : L2.St} {u : Option V} {H : Hp} {s : Shared}
theorem inv_cut (hN : X.N = N0 ++ [y]) (hl : σ0.length = N0.length) (I : Inv X pins (σ0 ++ [u]) H s) : Inv (cutN X N0) pins σ0 H s := by
  refine ⟨⟨I.ok.mod, I.ok.kind, I.ok.glob, I.ok.blt, I.ok.above, I.ok.inj, I.ok.has, I.ok.cab, I.ok.hd, I.ok.frames, I.ok.stk, I.ok.exf, I.ok.bs, I.ok.bsz, I.ok.noex, I.ok.exfs, I.ok.funs, I.ok.frf⟩, I.os, I.bare, I.base, ?_, I.cell, I.free, I.freeC, I.pin, I.hok, hl⟩
  obtain ⟨m, hm, h⟩ := I.loc
  refine ⟨m, hm, fun i x v e1 e2 e3 => h i x v ?_ ?_ e3⟩
  · rw [hN]
    exact (List.getElem?_append_left (List.getElem?_eq_some_iff.mp e1).1).trans e1
  · exact (List.getElem?_append_left (List.getElem?_eq_some_iff.mp e2).1).trans e2
theorem inv_back (hN : X.N = N0 ++ [y]) (I : Inv (cutN X N0) pins σ0 H s) : Inv X pins (σ0 ++ [none]) H s := by
  have hl : σ0.length = N0.length := I.len
  refine ⟨⟨I.ok.mod, I.ok.kind, I.ok.glob, I.ok.blt, I.ok.above, I.ok.inj, I.ok.has, I.ok.cab, I.ok.hd, I.ok.frames, I.ok.stk, I.ok.exf, I.ok.bs, I.ok.bsz, I.ok.noex, I.ok.exfs, I.ok.funs, I.ok.frf⟩, I.os, I.bare, I.base, ?_, I.cell, I.free, I.freeC, I.pin, I.hok, by rw [hN, List.length_append, List.length_append, hl]; rfl⟩
  obtain ⟨m, hm, h⟩ := I.loc
  refine ⟨m, hm, fun i x v e1 e2 e3 => ?_⟩
  by_cases hi : i < σ0.length
  · rw [List.getElem?_append_left hi] at e2
    rw [hN, List.getElem?_append_left (by rw [← hl]; exact hi)] at e1
    exact h i x v e1 e2 e3
  · rw [List.getElem?_append_right (Nat.le_of_not_lt hi)] at e2
    cases hk : i - σ0.length with
    | zero => rw [hk] at e2; cases e2
    | succ k => rw [hk] at e2; cases e2
theorem inv_wipe (hN : X.N = N0 ++ [y]) (hl : σ0.length = N0.length) (I : Inv X pins (σ0 ++ [u]) H s) : Inv X pins (σ0 ++ [none]) H s := inv_back hN (inv_cut hN hl I)
theorem semT_cut {c : Expr} {Q : Bool → Hp → Prop} (hN : X.N = N0 ++ [y]) (hl : σ0.length = N0.length) (h : semT (cutN X N0) c σ0 H Q) : semT X c (σ0 ++ [none]) H Q :=
  ⟨fun pins s I => thn (h.run pins s (inv_cut hN hl I)) fun b s' ⟨H', I', q⟩ => ⟨H', inv_back hN I', q⟩⟩
theorem semS_wipe {st : Stmt} {D : Ends} (hN : X.N = N0 ++ [y]) (hl : σ0.length = N0.length) (h : semS X st D (σ0 ++ [none]) H) : semS X st D (σ0 ++ [u]) H :=
  ⟨fun pins s I => h.run pins s (inv_wipe hN hl I)⟩
theorem at_cut {G : Glo} {B : Hp} {O0 M O : List Addr} {Lk : Lks} {δ0 : Dl} {τ : List (V × D)} (I : AtO G B O0 M Lk O (δ0 ++ [none]) (σ0 ++ [u]) τ H) (hl : σ0.length = δ0.length) : AtO G B O0 M Lk O δ0 σ0 τ H := by
  have dl : ∀ {i : Nat} {sl : Option Sl}, δ0[i]? = some sl → (δ0 ++ [none])[i]? = some sl := fun e => (List.getElem?_append_left (List.getElem?_eq_some_iff.mp e).1).trans e
  have sl' : ∀ {i : Nat} {v : Option V}, i < δ0.length → (σ0 ++ [u])[i]? = σ0[i]? := fun h => List.getElem?_append_left (by rw [hl]; exact h)
  have lt : ∀ {i : Nat} {sl : Option Sl}, δ0[i]? = some sl → i < δ0.length := fun e => (List.getElem?_eq_some_iff.mp e).1
  refine ⟨I.sub0, I.subM, I.o0, I.new, I.live, I.gr, fun p hp => ⟨(I.hid p hp).1, (I.hid p hp).2.1, (I.hid p hp).2.2.1, fun i o e => ?_⟩, I.hidT, I.feeds, I.tabs, I.tmp, hl.symm, fun i sl e => ?_, fun i j o o' p e1 e2 e3 e4 => ?_, I.lck, I.nof, I.inn.map id (fun _ _ _ _ _ _ z => z) fun i o e => ⟨o, dl e, rfl, (sl' (v := none) (lt e)).symm⟩⟩
  · have := (I.hid p hp).2.2.2 i o (dl e)
    rw [sl' (v := none) (lt e)] at this
    exact this
  · obtain ⟨v, e2, k⟩ := I.slots i sl (dl e)
    rw [sl' (v := none) (lt e)] at e2
    exact ⟨v, e2, k⟩
  · exact I.sep i j o o' p (dl e1) (dl e2) (by rw [sl' (v := none) (lt e1)]; exact e3) (by rw [sl' (v := none) (lt e2)]; exact e4)
theorem at_back {G : Glo} {B : Hp} {O0 M O : List Addr} {Lk : Lks} {δ0 : Dl} {τ : List (V × D)} (I : AtO G B O0 M Lk O δ0 σ0 τ H) : AtO G B O0 M Lk O (δ0 ++ [none]) (σ0 ++ [none]) τ H := by
  have hl := I.len
  have lt : ∀ {i : Nat} {sl : Sl}, (δ0 ++ [none])[i]? = some (some sl) → i < δ0.length := fun {i sl} e => by
    by_cases hi : i < δ0.length
    · exact hi
    · rw [List.getElem?_append_right (Nat.le_of_not_lt hi)] at e
      cases hk : i - δ0.length with
      | zero => rw [hk] at e; cases e
      | succ k => rw [hk] at e; cases e
  have dl : ∀ {i : Nat} {sl : Sl}, (δ0 ++ [none])[i]? = some (some sl) → δ0[i]? = some (some sl) := fun e => by
    rw [List.getElem?_append_left (lt e)] at e
    exact e
  have sl' : ∀ {i : Nat}, i < δ0.length → (σ0 ++ [none])[i]? = σ0[i]? := fun h => List.getElem?_append_left (by rw [← hl]; exact h)
  refine ⟨I.sub0, I.subM, I.o0, I.new, I.live, I.gr, fun p hp => ⟨(I.hid p hp).1, (I.hid p hp).2.1, (I.hid p hp).2.2.1, fun i o e => ?_⟩, I.hidT, I.feeds, I.tabs, I.tmp, by rw [List.length_append, List.length_append, hl]; rfl, fun i sl e => ?_, fun i j o o' p e1 e2 e3 e4 => ?_, I.lck, I.nof, I.inn.map id (fun _ _ _ _ _ _ z => z) fun i o e => ⟨o, dl e, rfl, sl' (lt e)⟩⟩
  · have := (I.hid p hp).2.2.2 i o (dl e)
    rw [← sl' (lt e)] at this
    exact this
  · obtain ⟨v, e2, k⟩ := I.slots i sl (dl e)
    exact ⟨v, by rw [sl' (lt e)]; exact e2, k⟩
  · exact I.sep i j o o' p (dl e1) (dl e2) (by rw [← sl' (lt e1)]; exact e3) (by rw [← sl' (lt e2)]; exact e4)
/-- if c: the test in the frame without its last name, of which nothing is told -/
theorem wpS_ifCut {Tb : List Addr} {δ0 : Dl} {R : Rs} {c : Expr} {sa sb : List Stmt} {pos : Pos} (N0 : List Str) (hN : X.N = N0 ++ [y]) (hd : δ0.length = N0.length) (h : wpT (cutN X N0) Tb c δ0 fun k => if k = true then wpSs X Tb sa (δ0 ++ [none]) R else wpSs X Tb sb (δ0 ++ [none]) R) : wpS X Tb (.If c sa sb pos) (δ0 ++ [none]) R := fun B O0 M Lk σ τ H I => by
  obtain ⟨O, I⟩ := I
  have hlen := I.len
  rw [List.length_append] at hlen
  obtain ⟨σ0, u, rfl⟩ : ∃ σ0 u, σ = σ0 ++ [u] := by
    rcases List.eq_nil_or_concat σ with e | ⟨σ0, u, e⟩
    · rw [e] at hlen
      simp at hlen
    · exact ⟨σ0, u, by rw [e, List.concat_eq_append]⟩
  have hl : σ0.length = δ0.length := by
    rw [List.length_append] at hlen
    have : [(none : Option Sl)].length = 1 := rfl
    have : [u].length = 1 := rfl
    omega
  refine semS_wipe hN (by rw [hl, hd]) ?_
  refine sem_s (ps_if pt_sem pss_sem pss_sem) (semT_cut hN (by rw [hl, hd]) (h B O0 M Lk σ0 τ H ⟨O, at_cut I hl⟩ _ fun k H' J q => ?_))
  obtain ⟨O', J⟩ := J
  cases k with
  | true => exact q B O0 M Lk _ τ H' ⟨O', at_back J⟩
  | false => exact q B O0 M Lk _ τ H' ⟨O', at_back J⟩
end
end DL

set_option Elab.async false
set_option linter.all false
set_option maxRecDepth 100000
set_option maxHeartbeats 2000000
/-! DL29: slices of lists with any bounds. -/
namespace DL
open PySem PySem.Spec L2
def cutA {α : Type} (xs : List α) (lo hi : Option Int) : List α := (xs.drop (HT.sIx xs.length 0 lo)).take (HT.sIx xs.length xs.length hi - HT.sIx xs.length 0 lo)
theorem cutA_mem {α : Type} {xs : List α} {lo hi : Option Int} {x : α} (h : x ∈ cutA xs lo hi) : x ∈ xs := List.mem_of_mem_drop (List.mem_of_mem_take h)
theorem cutA_len {α : Type} {xs : List α} {lo hi : Option Int} : (cutA xs lo hi).length ≤ xs.length := by
  unfold cutA
  rw [List.length_take, List.length_drop]
  omega
theorem cutA_map {α β : Type} {f : α → β} {xs : List α} {lo hi : Option Int} : cutA (xs.map f) lo hi = (cutA xs lo hi).map f := by
  unfold cutA
  rw [List.length_map, List.map_take, List.map_drop]
theorem RpA.cut {H : Hp} {vs : List V} {ds : List D} {lo hi : Option Int} (r : RpA H vs ds) : RpA H (cutV vs lo hi) (cutA ds lo hi) := by
  unfold cutV cutA
  rw [r.length]
  exact (r.drop _).take _
section
variable {X : Cx} {Tb : List Addr} {δ : Dl} {a b c : Expr} {pos p2 : Pos} {P : D → Prop}
/-- a[b:c], a list -/
theorem wpE_cutL (h : wpE X Tb a δ fun d => ∃ ds, d = .list ds ∧ wpE X Tb b δ fun n => ∃ i : Int, n = .int i ∧ wpE X Tb c δ fun m => ∃ j : Int, m = .int j ∧ P (.list (cutA ds (some i) (some j)))) : wpE X Tb (.Subscript a (.Slice (some b) (some c) none p2) pos) δ P := fun B O0 M Lk σ τ H I Q q =>
  sem_e (pe_slice sl_list pe_sem (po_some pe_sem) (po_some pe_sem)) (h B O0 M Lk σ τ H I _ fun x d1 H1 I1 h1 => by
    obtain ⟨ds, rfl, h1⟩ := h1
    refine h1 B O0 M Lk σ _ H1 I1 _ fun y d2 H2 I2 h2 => ?_
    obtain ⟨i, rfl, h2⟩ := h2
    have ey : y = .int i := by
      obtain ⟨O, J⟩ := id I2
      exact (J.tmp (y, .int i) List.mem_cons_self).int'
    refine ⟨i, ey, h2 B O0 M Lk σ _ H2 I2 _ fun z d3 H3 I3 h3 => ?_⟩
    obtain ⟨j, rfl, h3⟩ := h3
    obtain ⟨O, J⟩ := I3
    have ez : z = .int j := (J.tmp (z, .int j) List.mem_cons_self).int'
    have rx := J.tmp (x, .list ds) (List.mem_cons_of_mem _ (List.mem_cons_of_mem _ List.mem_cons_self))
    obtain ⟨ad, xs, rfl, ha, rxs⟩ := rx.list'
    refine ⟨j, ez, ad, xs, rfl, SqL.of (vis_some ha).2, fun p hp => ?_⟩
    exact q _ _ _ ⟨O, (J.drops fun p hp => List.mem_cons_of_mem _ (List.mem_cons_of_mem _ (List.mem_cons_of_mem _ hp))).newLst rxs.cut hp⟩ h3)
/-- a[b:], a list -/
theorem wpE_cutL1 (h : wpE X Tb a δ fun d => ∃ ds, d = .list ds ∧ wpE X Tb b δ fun n => ∃ i : Int, n = .int i ∧ P (.list (cutA ds (some i) none))) : wpE X Tb (.Subscript a (.Slice (some b) none none p2) pos) δ P := fun B O0 M Lk σ τ H I Q q =>
  sem_e (pe_slice sl_list pe_sem (po_some pe_sem) po_none) (h B O0 M Lk σ τ H I _ fun x d1 H1 I1 h1 => by
    obtain ⟨ds, rfl, h1⟩ := h1
    refine h1 B O0 M Lk σ _ H1 I1 _ fun y d2 H2 I2 h2 => ?_
    obtain ⟨k, rfl, h2⟩ := h2
    obtain ⟨O, J⟩ := I2
    obtain ⟨J0, rx, ry⟩ := J.pop2
    obtain ⟨ad, xs, rfl, ha, rxs⟩ := rx.list'
    exact ⟨k, ry.int', ad, xs, rfl, SqL.of (vis_some ha).2, fun p hp => q _ _ _ ⟨O, J0.newLst rxs.cut hp⟩ h2⟩)
end
end DL

set_option Elab.async false
set_option linter.all false
set_option maxRecDepth 100000
set_option maxHeartbeats 2000000
/-! DL30: instances as data: a field read, an instance made. -/
namespace DL
open PySem PySem.Spec L2
theorem zip_look {H : Hp} {f : Str} {x : D} : ∀ {ns : List Str} {vs : List V} {ds : List D}, RpA H vs ds → (ns.zip ds).lookup f = some x → ∃ v, (ns.zip vs).lookup f = some v ∧ Rp H v x
  | [], _, _, _, h => by cases h
  | _ :: _, _, _, .nil, h => by cases h
  | n :: ns, v :: vs, d :: ds, .cons r rs, h => by
    rw [List.zip_cons_cons, List.lookup_cons] at h ⊢
    cases e : f == n with
    | true =>
      rw [e] at h
      cases h
      exact ⟨v, rfl, r⟩
    | false =>
      rw [e] at h
      exact zip_look rs h
/-- what __init__ does that sets its fields to its parameters -/
def spInit (C : Addr) (ns : List Str) : Sp := fun vs H Q _ => ∃ (x dx : Addr) (us : List V), vs = .ref x :: us ∧ H x = some (.ins C dx []) ∧ us.length = ns.length ∧ Q .non (upd H x (.ins C dx (ns.zip us)))
section
variable {X : Cx} {Tb : List Addr} {δ : Dl} {e : Expr} {es : List Expr} {pos p : Pos} {P : D → Prop} {f x : Str}
/-- e.f -/
theorem wpE_fld (h : wpE X Tb e δ fun d => ∃ C ns ds y, d = insD C ns ds ∧ Cls X.K C ∧ NoAttr X.K C f ∧ (ns.zip ds).lookup f = some y ∧ P y) (hb : attributeBase e f X.env (eval e X.env) = eval e X.env := by rfl) : wpE X Tb (.Attribute e f pos) δ P := fun B O0 M Lk σ τ H I Q q =>
  sem_e (pe_fld pe_sem hb) (h B O0 M Lk σ τ H I _ fun v d H' J h1 => by
    obtain ⟨C, ns, ds, y, rfl, hC, hN, hy, h1⟩ := h1
    obtain ⟨O, J⟩ := J
    obtain ⟨J0, r⟩ := J.pop1
    obtain ⟨a, dx, vs, rfl, ha, hl, rs⟩ := r.ins'
    obtain ⟨u, hu, ru⟩ := zip_look rs hy
    exact ⟨a, C, dx, _, u, rfl, (vis_some ha).2, hC, hN, hu, q _ _ _ ⟨O, J0.push ru⟩ h1⟩)
/-- C(e, es) -/
theorem wpE_make {C fI : Addr} {fd : FuncData} {k : Nat} {ps ns : List Str} (M : Mk X.K C fI) (F : FnOk X.prog X.w X.K X.mg X.base CX0 k fI fd ps (spInit C ns)) (hr : Room (k + 1) X.A) (hm : X.mg x = some (.ref C)) (hb : Binds X.K fd ps [])
    (h : wpA X Tb (e :: es) δ fun ds => ds.length = ns.length ∧ P (insD C ns ds)) (hg : Gl X x := by rfl) (hdb : (x == ("__debug__" : Str)) = false := by decide) (he : starEach (e :: es) X.env = (false, eval e X.env) :: starEach es X.env := by rfl) (hpl : (backTo pos (starEach es X.env)).any (·.1) = false := by rfl) :
    wpE X Tb (.Call (.Name x p) (e :: es) [] pos) δ P := fun B O0 M' Lk σ τ H I Q q =>
  sem_e (pe_make M F hr hg hm hb .nil (pass0 (X := X)) pa_sem hdb he hpl) (h B O0 M' Lk σ τ H I _ fun us H1 J h1 => by
    obtain ⟨hl, h1⟩ := h1
    obtain ⟨O, J⟩ := J
    obtain ⟨J0, r⟩ := J.popA
    intro a dx ha hdx hne
    refine ⟨a, dx, us.map (·.1) ++ [], rfl, upd_same, by rw [List.append_nil, r.length, hl], rfl, ?_⟩
    rw [upd_upd, List.append_nil]
    obtain ⟨J1, _⟩ := J0.alloc (o := .own a) hdx
    have ha1 : upd H1 dx (.own a) a = none := by rw [upd_ne (Ne.symm hne)]; exact ha
    obtain ⟨J2, hn⟩ := J1.alloc (o := .ins C dx (ns.zip (us.map (·.1)))) ha1
    exact q _ _ _ ⟨O, J2.push (.ins (by rw [vis_out hn, upd_same]) (by rw [r.length, hl]) ((r.mono (le_new hdx)).mono (le_new ha1)))⟩ h1)
end
end DL

set_option Elab.async false
set_option linter.all false
set_option maxRecDepth 100000
set_option maxHeartbeats 4000000
/-! DL31: dict comprehensions whose keys differ. -/
namespace DL
open PySem PySem.Spec L2
section
variable {X : Cx} {Tb : List Addr} {δ : Dl} {kx vx iter : Expr} {pos : Pos}
abbrev DcG (X : Cx) (Tb : List Addr) (scope : Scope) (kx vx : Expr) (δ : Dl) (j : Nat) (P : D → Prop) (ds : List D) : Prop := ds.length < sizeLine ∧ ∃ Iv : Nat → List (Key × D) → Prop, Iv 0 [] ∧ (∀ i d acc, ds[i]? = some d → Iv i acc →
      ∃ k : Key, k ∉ acc.map (·.1) ∧ ∀ z H C cl fp, wpE (blkX X z H scope C cl fp) Tb kx (δ.set j (some (.d d))) fun y => y = kD k ∧ ∀ z H C cl fp, wpE (blkX X z H scope C cl fp) Tb vx (δ.set j (some (.d d))) fun y => Iv (i + 1) (acc ++ [(k, y)])) ∧
      ∀ acc, Iv ds.length acc → P (.dict (asD acc))
theorem rpk_ps {H : Hp} : ∀ {ps : List (Key × V × D)}, (∀ q ∈ ps, Rp H q.2.1 q.2.2) → RpK H (ps.map fun q => (q.1, q.2.1)) (asD (ps.map fun q => (q.1, q.2.2)))
  | [], _ => .nil
  | q :: r, h => .cons (h q List.mem_cons_self) (rpk_ps fun x hx => h x (List.mem_cons_of_mem _ hx))
theorem valV_none {k : Key} : ∀ {kvs : List (Key × V)}, k ∉ kvs.map (·.1) → valV kvs k = none
  | [], _ => rfl
  | (k', v) :: r, h => by
    rw [valV_neg (fun e => h (by rw [← e]; exact List.mem_cons_self))]
    exact valV_none fun z => h (List.mem_cons_of_mem _ z)
abbrev psK (ps : List (Key × V × D)) : List (Key × V) := ps.map fun q => (q.1, q.2.1)
abbrev psA (ps : List (Key × V × D)) : List (Key × D) := ps.map fun q => (q.1, q.2.2)
abbrev psT (ps : List (Key × V × D)) : List (V × D) := ps.map fun q => (q.2.1, q.2.2)
theorem dc_q {scope : Scope} {P : D → Prop} {x : Str} {wi : TI} (j : Nat) (hj : δ[j]? = some none)
    (hw : ∀ B O0 M Lk σ τ H, At (GX X Tb) B O0 M Lk δ σ τ H → ∀ R : It → Hp → Prop, (∀ J ds κ H', At (GX X Tb) B O0 M Lk δ σ (κ ++ τ) H' → IterJ (GX X Tb) J ds κ → DcG X Tb scope kx vx δ j P ds → R J H') → wi σ H R)
    {B : Hp} {O0 M : List Addr} {Lk : Lks} {σ : L2.St} {τ : List (V × D)} {H : Hp} (I : At (GX X Tb) B O0 M Lk δ σ τ H) {Q : VK} (q : ∀ v d H', At (GX X Tb) B O0 M Lk δ σ ((v, d) :: τ) H' → P d → Q v H') :
    tDc wi (gName j) (lcT X scope none) (fun σ H' Q => ∀ z H C cl fp, semE (blkX X z H scope C cl fp) kx σ H' Q) (fun σ H' Q => ∀ z H C cl fp, semE (blkX X z H scope C cl fp) vx σ H' Q) ([(x, j)].map (·.2)) σ H Q := by
  refine hw B O0 M Lk σ τ H I _ fun J ds κ H1 I1 it h1 => ?_
  obtain ⟨hlen, Iv, h0, hstep, hend⟩ := h1
  obtain ⟨O, I1⟩ := I1
  intro L hL
  obtain ⟨I2, ve, hBL⟩ := I1.hide (q := L) (ob := .dK []) hL
  have noh : ∀ p ∈ Lk.2, p.1 ≠ L := fun p hp z => by
    have := (I1.hid p hp).1
    rw [z, hL] at this
    cases this
  refine ⟨fun i m H => m = ds.length - i ∧ i ≤ ds.length ∧ ∃ ps : List (Key × V × D), At (GX X Tb) B O0 M (Lk.1, (L, .dK (psK ps)) :: Lk.2) δ σ (psT ps ++ (κ ++ τ)) H ∧ ps.length ≤ i ∧ (ps.map (·.1)).Nodup ∧ Iv i (psA ps), ⟨_, rfl, Nat.zero_le _, [], ⟨_, I2⟩, Nat.le_refl _, List.nodup_nil, h0⟩, fun i m H ⟨em, hi, ps, ⟨O, I3⟩, hal, hnd, hv⟩ => ?_⟩
  have itv := it B O0 M _ O δ σ (psT ps ++ (κ ++ τ)) H I3 (fun p hp => List.mem_append.mpr (.inr (List.mem_append.mpr (.inl hp)))) i
  by_cases hlt : i < ds.length
  · obtain ⟨go, yl⟩ := itv.1 hlt
    refine .inr ⟨go, fun H' => ∃ ps : List (Key × V × D), At (GX X Tb) B O0 M (Lk.1, (L, .dK (psK ps)) :: Lk.2) δ σ (psT ps ++ (κ ++ τ)) H' ∧ ps.length ≤ i + 1 ∧ (ps.map (·.1)).Nodup ∧ Iv (i + 1) (psA ps), fun H' q1 => ⟨ds.length - (i + 1), by omega, rfl, hlt, q1⟩, fun v H' hy => ?_⟩
    obtain ⟨d, hd, I4⟩ := yl v H' hy
    obtain ⟨I5, rv⟩ := I4.pop1
    have ew : ∀ u, L2.wipe ((L2.wipe σ [j]).set j (some u)) [j] = L2.wipe σ [j] := fun u => by
      show ((σ.set j none).set j (some u)).set j none = σ.set j none
      rw [List.set_set, List.set_set]
    have eσ : ∀ u : Option V, List.set (L2.wipe σ (List.map (fun x => x.2) [(x, j)])) j u = σ.set j u := fun u => by
      show (σ.set j none).set j u = σ.set j u
      rw [List.set_set]
    refine ⟨ew v, ?_⟩
    rw [eσ]
    have I6 := I5.set (j := j) rv
    have back : ∀ {O : List Addr} {τ' : List (V × D)} {H4 : Hp}, AtO (GX X Tb) B O0 M (Lk.1, (L, .dK (psK ps)) :: Lk.2) O (δ.set j (some (.d d))) (σ.set j (some v)) τ' H4 → AtO (GX X Tb) B O0 M (Lk.1, (L, .dK (psK ps)) :: Lk.2) O δ σ τ' H4 := fun I =>
      I.unset hj (by rw [List.length_set]) fun i n => by rw [List.getElem?_set_ne (Ne.symm n)]
    obtain ⟨k, hk, st⟩ := hstep i d _ hd hv
    have hk2 : k ∉ ps.map (·.1) := fun z => hk (by rw [List.map_map]; exact z)
    have hk3 : k ∉ (psK ps).map (·.1) := fun z => hk2 (by rw [List.map_map] at z; exact z)
    refine fun z H C cl fp => st z H C cl fp B O0 M _ _ _ _ ⟨O, I6⟩ _ fun y dy H4 I7 hq => ?_
    obtain ⟨rfl, hq⟩ := hq
    have ey : y = kV k := by
      obtain ⟨O7, I7⟩ := id I7
      exact (I7.tmp (y, kD k) List.mem_cons_self).key
    refine fun z H C cl fp => hq z H C cl fp B O0 M _ _ _ _ I7 _ fun u du H5 I8 hq2 => ?_
    obtain ⟨O8, I8⟩ := I8
    have I9 := back I8
    have hL9 := (I9.hid _ List.mem_cons_self).1
    refine ⟨psK ps, k, ey, hL9, ?_, ps ++ [(k, u, du)], ?_, ?_, ?_, ?_⟩
    · rw [List.length_map]
      exact Nat.lt_of_le_of_lt (Nat.le_trans hal hi) hlen
    · obtain ⟨I10, _⟩ := I9.turn (ob' := .dK (psK (ps ++ [(k, u, du)]))) noh
      have ep : putK (psK ps) k u = psK (ps ++ [(k, u, du)]) := by
        rw [putK_new u (valV_none hk3)]
        show _ = List.map _ _
        rw [List.map_append]
        rfl
      rw [ep]
      refine ⟨O8, I10.drops fun p hp => ?_⟩
      show p ∈ (u, du) :: (y, kD k) :: (psT ps ++ (κ ++ τ))
      have hp : p ∈ psT (ps ++ [(k, u, du)]) ++ (κ ++ τ) := hp
      unfold psT at hp
      rw [List.map_append] at hp
      simp only [List.append_assoc, List.mem_append, List.mem_cons, List.cons_append, List.nil_append, List.map_cons, List.map_nil] at hp ⊢
      rcases hp with h | h | h
      · exact .inr (.inr (.inl h))
      · exact .inl h
      · exact .inr (.inr (.inr h))
    · rw [List.length_append]
      exact Nat.succ_le_succ hal
    · rw [List.map_append]
      exact List.nodup_append.mpr ⟨hnd, List.pairwise_singleton _ _, fun a ha b hb e => hk2 (by rw [e, List.mem_singleton.mp hb] at ha; exact ha)⟩
    · show Iv (i + 1) (List.map _ _)
      rw [List.map_append]
      exact hq2
  · have e : i = ds.length := by omega
    subst e
    obtain ⟨O', I5, le, eL⟩ := I3.show' noh
    refine .inl ⟨itv.2 (Nat.le_refl _), q _ _ _ ⟨O', (I5.drops (τ' := τ) fun p hp => ?_).push (.dic (.inl eL) (by rw [List.map_map]; exact hnd) (rpk_ps fun p hp => I5.tmp (p.2.1, p.2.2) (List.mem_append.mpr (.inl (List.mem_map.mpr ⟨p, hp, rfl⟩)))))⟩ (hend _ hv)⟩
    exact List.mem_append.mpr (.inr (List.mem_append.mpr (.inr hp)))
/-- {k: v for x in iter}, the keys all different -/
theorem wpE_dc {x : Str} {px : Pos} {scope : Scope} {P : D → Prop} (j : Nat) (hj : δ[j]? = some none) (h : wpI X Tb (.Name x px) iter δ (DcG X Tb scope kx vx δ j P))
    (hc : X.calm = true) (hN : X.N.Nodup) (ok : BlkOk X.N X.env.scope scope [(x, j)]) (hi : X.N[j]? = some x := by rfl) (hloc : ∀ C cl, Loc (compEnvC scope cl C X.env).scope x := by intro _ _; first | exact Or.inl rfl | exact Or.inr rfl)
    (hlo : ∀ C cl, (compEnvC scope cl C X.env).scope.names.lookup x = some .local := by intro _ _; rfl)
    (hs : ∀ x, foldedSetIterable iter X.env x = pure x := by intro _; rfl) : wpE X Tb (.DictComp kx vx [⟨.Name x px, iter, [], 0⟩] scope pos) δ P := fun B O0 M Lk σ τ H I Q q => by
  obtain ⟨wi, hwi, hw⟩ := h
  have gtr : ∀ (z : Shared) (H : Hp) (C : Addr) (cl : List (Str × Addr)) (fp : List Addr), PG (X.blk z H scope (compEnvC scope cl C X.env) fp) (.Name x px) (gName j) := fun z H C cl fp => pg_name hN hi (hloc C cl) (.inr (hlo C cl))
  have etr : ∀ (e : Expr) (z : Shared) (H : Hp) (C : Addr) (cl : List (Str × Addr)) (fp : List Addr), PE (X.blk z H scope (compEnvC scope cl C X.env) fp) e (fun σ H' Q => ∀ z H C cl fp, semE (blkX X z H scope C cl fp) e σ H' Q) := fun e z H C cl fp => ⟨fun pins s σ H' Q I h => (h z H C cl fp).run pins s I⟩
  exact sem_e (pe_dc hc hN hwi ok gtr (tt := lcT X scope none) (fun z H C cl fp => pts_nil) (etr kx) (etr vx) hs) (dc_q j hj hw I q)
end
end DL

set_option Elab.async false
set_option linter.all false
set_option maxRecDepth 100000
set_option maxHeartbeats 2000000
/-! DL32: what repr writes holds no instance. -/
namespace DL
open PySem PySem.Spec L2
theorem isM_sh {ks : List (D × D)} (h : PyData.showableKv ks = true) : isM ks = false := by
  cases hm : isM ks with
  | false => rfl
  | true =>
    exfalso
    unfold isM at hm
    split at hm
    · rename_i i v r
      have e := of_decide_eq_true hm
      rw [e] at h
      simp only [PyData.showableKv, PyData.showable, bad_no, Bool.false_and, Bool.and_false] at h
      cases h
    · cases hm
theorem sh_ty {d : D} (h : d.showable = true) : tyD d ≠ "?" := by
  cases d with
  | dict ks =>
    simp only [PyData.showable] at h
    rw [tyD_dict (isM_sh h)]
    decide
  | none => decide
  | bool b => exact (by decide : ("bool" : String) ≠ "?")
  | int b => exact (by decide : ("int" : String) ≠ "?")
  | str b => exact (by decide : ("str" : String) ≠ "?")
  | list b => exact (by decide : ("list" : String) ≠ "?")
  | tuple b => exact (by decide : ("tuple" : String) ≠ "?")
theorem sh_mem {d : D} : ∀ {ds : List D}, PyData.showableAll ds = true → d ∈ ds → d.showable = true
  | x :: xs, h, hm => by
    simp only [PyData.showableAll, Bool.and_eq_true] at h
    rcases List.mem_cons.mp hm with rfl | hm
    · exact h.1
    · exact sh_mem h.2 hm
theorem sh_list {ds : List D} (h : PyData.showable (.list ds) = true) : PyData.showableAll ds = true := by simpa only [PyData.showable] using h
theorem sh_tuple {ds : List D} (h : PyData.showable (.tuple ds) = true) : PyData.showableAll ds = true := by simpa only [PyData.showable] using h
end DL

set_option Elab.async false
set_option linter.all false
set_option maxRecDepth 100000
set_option maxHeartbeats 2000000
/-! DL33: own lists of lists. -/
namespace DL
open PySem PySem.Spec L2
section
variable {X : Cx} {Tb : List Addr} {δ : Dl} {e i : Expr} {es : List Expr} {pos p1 p2 p3 p4 : Pos} {st : Stmt} {sts : List Stmt} {R R' : Rs}
abbrev Inners := List (Addr × List D)
theorem AtO.subH {G : Glo} {B : Hp} {O0 M O : List Addr} {L1 : List (Addr × Obj × HO)} {hs hs' : List (Addr × HO)} {σ : L2.St} {τ : List (V × D)} {H : Hp} (I : AtO G B O0 M (L1, hs') O δ σ τ H) (sub : ∀ r ∈ hs, r ∈ hs') : AtO G B O0 M (L1, hs) O δ σ τ H :=
  ⟨I.sub0, I.subM, I.o0, I.new, I.live, I.gr, fun p hp => I.hid p (sub p hp), fun p hp => I.hidT p (sub p hp), I.feeds, I.tabs, I.tmp, I.len, I.slots, I.sep, I.lck, I.nof, I.inn.less sub⟩
/-- hidden lists become an own list of lists -/
theorem AtO.ownLs {G : Glo} {B : Hp} {O0 M O : List Addr} {L1 : List (Addr × Obj × HO)} {hs hs' : List (Addr × HO)} {σ : L2.St} {τ : List (V × D)} {H : Hp} {p : Addr} {qs : Inners} {j : Nat} (I : AtO G B O0 M (L1, hs') O δ σ τ H)
    (hp : (p, HO.lst (qs.map fun x => V.ref x.1)) ∈ hs') (hq : ∀ x ∈ qs, ∃ xs, (x.1, HO.lst xs) ∈ hs' ∧ RpA (vis O H) xs x.2) (nd : (qs.map (·.1)).Nodup) (np : p ∉ qs.map (·.1))
    (sub : ∀ r ∈ hs, r ∈ hs' ∧ r.1 ≠ p ∧ r.1 ∉ qs.map (·.1)) : AtO G B O0 M (L1, hs) O (δ.set j (some (.own (.lss qs)))) (σ.set j (some (.ref p))) τ H := by
  obtain ⟨hx, hO, hB, old⟩ := I.hid _ hp
  have hx : H p = some (.lst (qs.map fun x => V.ref x.1)) := hx
  have hB : B p = none := hB
  have hin : ∀ a ∈ qs.map (·.1), ∃ xs, (a, HO.lst xs) ∈ hs' := fun a ha => by
    obtain ⟨x, hx, rfl⟩ := List.mem_map.mp ha
    obtain ⟨xs, h, _⟩ := hq x hx
    exact ⟨xs, h⟩
  have key : ∀ (i : Nat) (o : OD), (δ.set j (some (.own (.lss qs))))[i]? = some (some (.own o)) → (j = i ∧ o = .lss qs ∧ (σ.set j (some (.ref p)))[i]? = some (some (.ref p))) ∨ (j ≠ i ∧ δ[i]? = some (some (.own o)) ∧ (σ.set j (some (.ref p)))[i]? = σ[i]?) := fun i o e => by
    by_cases n : j = i
    · subst n
      have hlt : j < δ.length := by
        have := (List.getElem?_eq_some_iff.mp e).1
        rwa [List.length_set] at this
      rw [List.getElem?_set_self hlt] at e
      cases e
      exact .inl ⟨rfl, rfl, List.getElem?_set_self (by rw [← I.len]; exact hlt)⟩
    · rw [List.getElem?_set_ne n] at e
      exact .inr ⟨n, e, List.getElem?_set_ne n⟩
  refine ⟨I.sub0, I.subM, I.o0, I.new, I.live, I.gr, fun r hr => ?_, fun r hr => I.hidT r (sub r hr).1, I.feeds, I.tabs, I.tmp, by rw [List.length_set, List.length_set]; exact I.len, fun i sl e => ?_, fun i k o o' a e1 e2 e3 e4 => ?_, I.lck, I.nof, ?_⟩
  · obtain ⟨h1, h2, h3, h4⟩ := I.hid r (sub r hr).1
    refine ⟨h1, h2, h3, fun i o e => ?_⟩
    rcases key i o e with ⟨_, _, z⟩ | ⟨_, e, z⟩
    · rw [z]
      exact fun z => (sub r hr).2.1 (V.ref.inj (Option.some.inj (Option.some.inj z))).symm
    · rw [z]
      exact h4 i o e
  · by_cases hj : j = i
    · subst hj
      have hlt : j < δ.length := by
        have := (List.getElem?_eq_some_iff.mp e).1
        rwa [List.length_set] at this
      rw [List.getElem?_set_self hlt] at e
      cases e
      refine ⟨.ref p, List.getElem?_set_self (by rw [← I.len]; exact hlt), p, rfl, hO, .inr hB, .inr hB, hx, fun x hx => ?_⟩
      obtain ⟨xs, h1, h2⟩ := hq x hx
      obtain ⟨g1, g2, _⟩ := I.hid _ h1
      exact ⟨g2, xs, g1, h2⟩
    · rw [List.getElem?_set_ne hj] at e
      obtain ⟨u, h1, h2⟩ := I.slots i sl e
      exact ⟨u, by rw [List.getElem?_set_ne hj]; exact h1, h2⟩
  · rcases key i o e1 with ⟨n1, _, z1⟩ | ⟨n1, e1, z1⟩
    · rcases key k o' e2 with ⟨n2, _, z2⟩ | ⟨n2, e2, z2⟩
      · rw [← n1, ← n2]
      · rw [z1] at e3
        rw [z2] at e4
        have ea : p = a := V.ref.inj (Option.some.inj (Option.some.inj e3))
        exact (old k o' e2 (by rw [show (p, HO.lst (qs.map fun x => V.ref x.1)).1 = a from ea]; exact e4)).elim
    · rcases key k o' e2 with ⟨n2, _, z2⟩ | ⟨n2, e2, z2⟩
      · rw [z1] at e3
        rw [z2] at e4
        have ea : p = a := V.ref.inj (Option.some.inj (Option.some.inj e4))
        exact (old i o e1 (by rw [show (p, HO.lst (qs.map fun x => V.ref x.1)).1 = a from ea]; exact e3)).elim
      · rw [z1] at e3
        rw [z2] at e4
        exact I.sep i k o o' a e1 e2 e3 e4
  · refine ⟨fun i o e => ?_, fun i o e x hx => ?_, fun i o e x hx r hr => ?_, fun i k o o' e1 e2 x hx => ?_, fun i k o o' x e1 e2 h1 h2 => ?_⟩
    · rcases key i o e with ⟨_, rfl, _⟩ | ⟨_, e, _⟩
      · exact nd
      · exact I.inn.nd i o e
    · rcases key i o e with ⟨_, rfl, _⟩ | ⟨_, e, _⟩
      · obtain ⟨xs, h⟩ := hin x hx
        exact (I.hid _ h).2.2.1
      · exact I.inn.new i o e x hx
    · rcases key i o e with ⟨_, rfl, _⟩ | ⟨_, e, _⟩
      · exact fun z => (sub r hr).2.2 (by rw [z]; exact hx)
      · exact I.inn.hid i o e x hx r (sub r hr).1
    · rcases key i o e1 with ⟨_, rfl, _⟩ | ⟨_, e1, _⟩
      · rcases key k o' e2 with ⟨_, _, z2⟩ | ⟨_, e2, z2⟩
        · rw [z2]
          exact fun z => np (by rw [V.ref.inj (Option.some.inj (Option.some.inj z))]; exact hx)
        · rw [z2]
          obtain ⟨xs, h⟩ := hin x hx
          exact (I.hid _ h).2.2.2 k o' e2
      · rcases key k o' e2 with ⟨_, _, z2⟩ | ⟨_, e2, z2⟩
        · rw [z2]
          exact fun z => I.inn.hid i o e1 x hx _ hp (V.ref.inj (Option.some.inj (Option.some.inj z)))
        · rw [z2]
          exact I.inn.own i k o o' e1 e2 x hx
    · rcases key i o e1 with ⟨n1, rfl, _⟩ | ⟨_, e1, _⟩
      · rcases key k o' e2 with ⟨n2, _, _⟩ | ⟨_, e2, _⟩
        · rw [← n1, ← n2]
        · obtain ⟨xs, h⟩ := hin x h1
          exact absurd rfl (I.inn.hid k o' e2 x h2 _ h)
      · rcases key k o' e2 with ⟨_, rfl, _⟩ | ⟨_, e2, _⟩
        · obtain ⟨xs, h⟩ := hin x h2
          exact absurd rfl (I.inn.hid i o e1 x h1 _ h)
        · exact I.inn.inn i k o o' x e1 e2 h1 h2
/-- an own list of lists as hidden lists -/
theorem AtO.openLs {G : Glo} {B : Hp} {O0 M O : List Addr} {L1 : List (Addr × Obj × HO)} {hs : List (Addr × HO)} {σ : L2.St} {τ : List (V × D)} {H : Hp} {p : Addr} {qs : Inners} {j : Nat} (I : AtO G B O0 M (L1, hs) O δ σ τ H)
    (hj : δ[j]? = some (some (.own (.lss qs)))) (hp : σ[j]? = some (some (.ref p))) : ∃ es : List (Addr × HO), AtO G B O0 M (L1, (p, HO.lst (qs.map fun x => V.ref x.1)) :: (es ++ hs)) O (δ.set j none) σ τ H ∧
      es.map (·.1) = qs.map (·.1) ∧ (∀ x ∈ qs, ∃ xs, (x.1, HO.lst xs) ∈ es ∧ RpA (vis O H) xs x.2) ∧ (qs.map (·.1)).Nodup ∧ p ∉ qs.map (·.1) ∧ (∀ r ∈ hs, r.1 ≠ p ∧ r.1 ∉ qs.map (·.1)) ∧ (∀ r ∈ es, ∃ xs, r.2 = HO.lst xs) := by
  obtain ⟨v, hv, p', rfl, hpO, _, hb2, hx, hin⟩ := I.slots j _ hj
  obtain rfl : p = p' := V.ref.inj (Option.some.inj (Option.some.inj (hp.symm.trans hv)))
  have hB : B p = none := hb2.elim (fun z => by cases z) id
  have hlt : j < δ.length := (List.getElem?_eq_some_iff.mp hj).1
  have np : p ∉ qs.map (·.1) := fun z => I.inn.own j j _ _ hj hj p z hp
  have get : ∀ {i : Nat} {sl : Sl}, (δ.set j none)[i]? = some (some sl) → j ≠ i ∧ δ[i]? = some (some sl) := fun {i sl} e => by
    have n : j ≠ i := fun z => by
      subst z
      rw [List.getElem?_set_self hlt] at e
      cases e
    rw [List.getElem?_set_ne n] at e
    exact ⟨n, e⟩
  let f : Addr × List D → Addr × HO := fun x => (x.1, (H x.1).getD (.lst []))
  have fm : ∀ r ∈ qs.map f, ∃ x ∈ qs, ∃ xs, r = (x.1, HO.lst xs) ∧ H x.1 = some (.lst xs) ∧ RpA (vis O H) xs x.2 ∧ x.1 ∈ O := fun r hr => by
    obtain ⟨x, hx, rfl⟩ := List.mem_map.mp hr
    obtain ⟨h1, xs, h2, h3⟩ := hin x hx
    exact ⟨x, hx, xs, by show (x.1, (H x.1).getD (.lst [])) = _; rw [h2]; rfl, h2, h3, h1⟩
  refine ⟨qs.map f, ⟨I.sub0, I.subM, I.o0, I.new, I.live, I.gr, fun r hr => ?_, fun r hr ps => ?_, I.feeds, I.tabs, I.tmp, by rw [List.length_set]; exact I.len, fun i sl e => I.slots i sl (get e).2, fun i k o o' a e1 e2 e3 e4 => I.sep i k o o' a (get e1).2 (get e2).2 e3 e4, I.lck, I.nof, ?_⟩, by rw [List.map_map]; rfl, fun x hx => ?_, I.inn.nd j _ hj, np, fun r hr => ⟨fun z => (I.hid r hr).2.2.2 j _ hj (by rw [z]; exact hp), fun z => I.inn.hid j _ hj r.1 z r hr rfl⟩, fun r hr => ?_⟩
  · rcases List.mem_cons.mp hr with e | hr
    · rw [e]
      exact ⟨hx, hpO, hB, fun i o e z => (get e).1 (I.sep j i _ o p hj (get e).2 hp z)⟩
    rcases List.mem_append.mp hr with hr | hr
    · obtain ⟨x, hx, xs, rfl, h2, h3, h4⟩ := fm r hr
      have hm : x.1 ∈ innA (.lss qs) := List.mem_map_of_mem hx
      exact ⟨h2, h4, I.inn.new j _ hj _ hm, fun i o e => I.inn.own j i _ _ hj (get e).2 _ hm⟩
    · obtain ⟨h1, h2, h3, h4⟩ := I.hid r hr
      exact ⟨h1, h2, h3, fun i o e => h4 i o (get e).2⟩
  · rcases List.mem_cons.mp hr with e | hr
    · rw [e]
      exact fun z => nomatch z
    rcases List.mem_append.mp hr with hr | hr
    · obtain ⟨x, hx, xs, rfl, _⟩ := fm r hr
      exact fun z => nomatch z
    · exact I.hidT r hr ps
  · have J := I.inn
    refine ⟨fun i o e => J.nd i o (get e).2, fun i o e => J.new i o (get e).2, fun i o e x hx r hr => ?_, fun i k o o' e e' => J.own i k o o' (get e).2 (get e').2, fun i k o o' x e e' => J.inn i k o o' x (get e).2 (get e').2⟩
    rcases List.mem_cons.mp hr with e' | hr
    · rw [e']
      exact fun z => J.own i j o _ (get e).2 hj x hx (by rw [← show p = x from z]; exact hp)
    rcases List.mem_append.mp hr with hr | hr
    · obtain ⟨y, hy, xs, rfl, _⟩ := fm r hr
      exact fun z => (get e).1 (J.inn j i _ o x hj (get e).2 (by rw [← show y.1 = x from z]; exact List.mem_map_of_mem hy) hx)
    · exact J.hid i o (get e).2 x hx r hr
  · obtain ⟨h1, xs, h2, h3⟩ := hin x hx
    exact ⟨xs, List.mem_map.mpr ⟨x, hx, by show (x.1, (H x.1).getD (.lst [])) = _; rw [h2]; rfl⟩, h3⟩
  · obtain ⟨x, hx, xs, rfl, h2, _⟩ := fm r hr
    exact ⟨xs, rfl⟩
theorem set_self {α : Type} {xs : List α} {j : Nat} {a : α} (h : xs[j]? = some a) : xs.set j a = xs := by
  apply List.ext_getElem?
  intro i
  by_cases n : j = i
  · subst n
    rw [List.getElem?_set_self (List.getElem?_eq_some_iff.mp h).1, h]
  · rw [List.getElem?_set_ne n]
theorem fst_set {qs : Inners} {k : Nat} {q : Addr} {ds ds' : List D} (h : qs[k]? = some (q, ds)) : (qs.set k (q, ds')).map (·.1) = qs.map (·.1) := by
  rw [List.map_set]
  exact set_self (by rw [List.getElem?_map, h]; rfl)
theorem ref_set {qs : Inners} {k : Nat} {q : Addr} {ds ds' : List D} (h : qs[k]? = some (q, ds)) : (qs.set k (q, ds')).map (fun x => V.ref x.1) = qs.map fun x => V.ref x.1 := by
  rw [List.map_set]
  exact set_self (by rw [List.getElem?_map, h]; rfl)
theorem mem_set' {qs : Inners} {k : Nat} {q : Addr} {ds ds' : List D} (h : qs[k]? = some (q, ds)) (nd : (qs.map (·.1)).Nodup) {x : Addr × List D} (hx : x ∈ qs.set k (q, ds')) : x = (q, ds') ∨ (x ∈ qs ∧ x.1 ≠ q) := by
  obtain ⟨m, hm⟩ := List.mem_iff_getElem?.mp hx
  have hlt := (List.getElem?_eq_some_iff.mp h).1
  by_cases n : k = m
  · subst n
    rw [List.getElem?_set_self hlt] at hm
    exact .inl (Option.some.inj hm).symm
  · rw [List.getElem?_set_ne n] at hm
    refine .inr ⟨List.mem_of_getElem? hm, fun z => n ?_⟩
    have l2 := (List.getElem?_eq_some_iff.mp hm).1
    have h1 : (qs.map (·.1))[k]? = some q := by rw [List.getElem?_map, h]; rfl
    have h2 : (qs.map (·.1))[m]? = some q := by rw [List.getElem?_map, hm, ← z]; rfl
    exact (List.getElem?_inj (by rw [List.length_map]; exact hlt) nd).mp (h1.trans h2.symm)
/-- a list within changes -/
theorem AtO.mutIn {G : Glo} {B : Hp} {O0 M O : List Addr} {Lk : Lks} {σ : L2.St} {τ : List (V × D)} {H : Hp} {p q : Addr} {qs : Inners} {j k : Nat} {ds ds' : List D} {ys : List V} (I : AtO G B O0 M Lk O δ σ τ H)
    (hj : δ[j]? = some (some (.own (.lss qs)))) (hp : σ[j]? = some (some (.ref p))) (hk : qs[k]? = some (q, ds)) (r : RpA (vis O H) ys ds') : AtO G B O0 M Lk O (δ.set j (some (.own (.lss (qs.set k (q, ds')))))) σ τ (upd H q (.lst ys)) := by
  obtain ⟨L1, hs⟩ := Lk
  obtain ⟨es, J, e1, e2, nd, np, e3, e4⟩ := I.openLs hj hp
  have hq : q ∈ qs.map (·.1) := List.mem_map.mpr ⟨_, List.mem_of_getElem? hk, rfl⟩
  have pq : p ≠ q := fun z => np (by rw [z]; exact hq)
  obtain ⟨xs, hx, rx⟩ := e2 _ (List.mem_of_getElem? hk)
  let rest := ((p, HO.lst (qs.map fun x => V.ref x.1)) :: (es ++ hs)).filter fun r => decide (r.1 ≠ q)
  have mr : ∀ r, r ∈ rest ↔ r ∈ ((p, HO.lst (qs.map fun x => V.ref x.1)) :: (es ++ hs)) ∧ r.1 ≠ q := fun r => by
    rw [List.mem_filter]
    simp
  have J1 : AtO G B O0 M (L1, (q, HO.lst xs) :: rest) O (δ.set j none) σ τ H := J.subH fun r hr => by
    rcases List.mem_cons.mp hr with z | hr
    · rw [z]
      exact List.mem_cons_of_mem _ (List.mem_append_left _ hx)
    · exact ((mr r).mp hr).1
  obtain ⟨J2, ve⟩ := J1.turn (ob' := HO.lst ys) fun r hr => ((mr r).mp hr).2
  have J3 := J2.ownLs (hs := hs) (p := p) (qs := qs.set k (q, ds')) (j := j) (by
      rw [ref_set hk]
      exact List.mem_cons_of_mem _ ((mr _).mpr ⟨List.mem_cons_self, pq⟩)) (fun x hx => by
      rcases mem_set' hk nd hx with z | ⟨h1, h2⟩
      · rw [z]
        exact ⟨ys, List.mem_cons_self, by rw [ve]; exact r⟩
      · obtain ⟨zs, g1, g2⟩ := e2 x h1
        exact ⟨zs, List.mem_cons_of_mem _ ((mr _).mpr ⟨List.mem_cons_of_mem _ (List.mem_append_left _ g1), h2⟩), by rw [ve]; exact g2⟩) (by rw [fst_set hk]; exact nd) (by rw [fst_set hk]; exact np) fun r hr => by
      rw [fst_set hk]
      obtain ⟨g1, g2⟩ := e3 r hr
      exact ⟨List.mem_cons_of_mem _ ((mr _).mpr ⟨List.mem_cons_of_mem _ (List.mem_append_right _ hr), fun z => g2 (by rw [z]; exact hq)⟩), g1, g2⟩
  rw [List.set_set, set_self hp] at J3
  exact J3
/-- one more list within -/
theorem AtO.growLs {G : Glo} {B : Hp} {O0 M O : List Addr} {L1 : List (Addr × Obj × HO)} {hs : List (Addr × HO)} {σ : L2.St} {τ : List (V × D)} {H : Hp} {p q : Addr} {qs : Inners} {j : Nat} {ds : List D} {xs : List V} (I : AtO G B O0 M (L1, (q, HO.lst xs) :: hs) O δ σ τ H)
    (hj : δ[j]? = some (some (.own (.lss qs)))) (hp : σ[j]? = some (some (.ref p))) (r : RpA (vis O H) xs ds) (hd : ∀ r ∈ hs, r.1 ≠ q) : AtO G B O0 M (L1, hs) O (δ.set j (some (.own (.lss (qs ++ [(q, ds)]))))) σ τ (upd H p (.lst (qs.map (fun x => V.ref x.1) ++ [.ref q]))) := by
  obtain ⟨es, J, e1, e2, nd, np, e3, e4⟩ := I.openLs hj hp
  obtain ⟨q1, q2⟩ := e3 _ List.mem_cons_self
  have q1 : q ≠ p := q1
  have q2 : q ∉ qs.map (·.1) := q2
  obtain ⟨J2, ve⟩ := J.turn (ob' := HO.lst (qs.map (fun x => V.ref x.1) ++ [.ref q])) fun r hr => by
    rcases List.mem_append.mp hr with hr | hr
    · exact fun z => np (by rw [← z, ← e1]; exact List.mem_map_of_mem hr)
    · exact (e3 r hr).1
  have fst : (qs ++ [(q, ds)]).map (·.1) = qs.map (·.1) ++ [q] := by rw [List.map_append]; rfl
  have J3 := J2.ownLs (hs := hs) (p := p) (qs := qs ++ [(q, ds)]) (j := j) (by
      rw [List.map_append]
      exact List.mem_cons_self) (fun x hx => by
      rcases List.mem_append.mp hx with hx | hx
      · obtain ⟨zs, g1, g2⟩ := e2 x hx
        exact ⟨zs, List.mem_cons_of_mem _ (List.mem_append_left _ g1), by rw [ve]; exact g2⟩
      · rw [List.mem_singleton.mp hx]
        exact ⟨xs, List.mem_cons_of_mem _ (List.mem_append_right _ List.mem_cons_self), by rw [ve]; exact r⟩) (by
      rw [fst]
      exact List.nodup_append.mpr ⟨nd, List.nodup_cons.mpr ⟨List.not_mem_nil, List.nodup_nil⟩, fun a ha b hb z => by
        rw [List.mem_singleton.mp hb] at z
        exact q2 (by rw [← z]; exact ha)⟩) (by
      rw [fst]
      exact fun z => (List.mem_append.mp z).elim np fun z => q1 (List.mem_singleton.mp z).symm) fun r hr => by
      obtain ⟨g1, g2⟩ := e3 r (List.mem_cons_of_mem _ hr)
      refine ⟨List.mem_cons_of_mem _ (List.mem_append_right _ (List.mem_cons_of_mem _ hr)), g1, ?_⟩
      rw [fst]
      exact fun z => (List.mem_append.mp z).elim g2 fun z => hd r hr (List.mem_singleton.mp z)
  rw [List.set_set, set_self hp] at J3
  exact J3
theorem AtO.showAll {G : Glo} {B : Hp} {O0 M : List Addr} {L1 : List (Addr × Obj × HO)} {hs : List (Addr × HO)} {σ : L2.St} {τ : List (V × D)} {H : Hp} : ∀ {es : List (Addr × HO)} {O : List Addr} (I : AtO G B O0 M (L1, es ++ hs) O δ σ τ H) (nd : (es.map (·.1)).Nodup) (hd : ∀ r ∈ hs, r.1 ∉ es.map (·.1)) (hl : ∀ r ∈ es, ∃ xs, r.2 = HO.lst xs),
    ∃ O', AtO G B O0 M (L1, hs) O' δ σ τ H ∧ Le (vis O H) (vis O' H) ∧ ∀ r ∈ es, vis O' H r.1 = some r.2
  | [], O, I, _, _, _ => ⟨O, I, Le.refl _, fun _ z => nomatch z⟩
  | (q, ob) :: es, O, I, nd, hd, hl => by
    have nd' := List.nodup_cons.mp nd
    obtain ⟨O1, I1, l1, s1⟩ := AtO.show' (q := q) (ob := ob) (hs := es ++ hs) I fun r hr z => by
      rcases List.mem_append.mp hr with hr | hr
      · exact nd'.1 (List.mem_map.mpr ⟨r, hr, z⟩)
      · exact hd r hr (by rw [z]; exact List.mem_cons_self)
    obtain ⟨O2, I2, l2, s2⟩ := AtO.showAll I1 nd'.2 (fun r hr z => hd r hr (List.mem_cons_of_mem _ z)) fun r hr => hl r (List.mem_cons_of_mem _ hr)
    refine ⟨O2, I2, l1.trans l2, fun r hr => ?_⟩
    rcases List.mem_cons.mp hr with z | hr
    · obtain ⟨xs, hx⟩ := hl (q, ob) List.mem_cons_self
      rw [z]
      have hx : ob = HO.lst xs := hx
      show vis O2 H q = some ob
      rw [hx] at s1 ⊢
      exact l2.lst _ _ s1
    · exact s2 r hr
/-- the data of an own list of lists -/
abbrev lssD (qs : Inners) : D := .list (qs.map fun x => .list x.2)
theorem AtO.thawLs {G : Glo} {B : Hp} {O0 M O : List Addr} {Lk : Lks} {σ : L2.St} {τ : List (V × D)} {H : Hp} {qs : Inners} {j : Nat} (I : AtO G B O0 M Lk O δ σ τ H) (hj : δ[j]? = some (some (.own (.lss qs)))) : ∃ O', AtO G B O0 M Lk O' (δ.set j (some (.d (lssD qs)))) σ τ H := by
  obtain ⟨L1, hs⟩ := Lk
  obtain ⟨v, hv, p, rfl, hrest⟩ := I.slots j _ hj
  clear hrest
  obtain ⟨es, J, e1, e2, nd, np, e3, e4⟩ := I.openLs hj hv
  obtain ⟨O1, J1, l1, s1⟩ := AtO.showAll (es := (p, HO.lst (qs.map fun x => V.ref x.1)) :: es) J (by
      show (p :: es.map (·.1)).Nodup
      rw [e1]
      exact List.nodup_cons.mpr ⟨np, nd⟩) (fun r hr z => by
      have z : r.1 ∈ p :: es.map (·.1) := z
      rw [e1] at z
      exact (List.mem_cons.mp z).elim (e3 r hr).1 (e3 r hr).2) fun r hr => by
      rcases List.mem_cons.mp hr with z | hr
      · rw [z]
        exact ⟨_, rfl⟩
      · exact e4 r hr
  have hr : Rp (vis O1 H) (.ref p) (lssD qs) := by
    refine .lst (s1 _ List.mem_cons_self) ?_
    have h : ∀ x ∈ qs, Rp (vis O1 H) (.ref x.1) (.list x.2) := fun x hx => by
      obtain ⟨xs, g1, g2⟩ := e2 x hx
      exact .lst (s1 _ (List.mem_cons_of_mem _ g1)) (g2.mono l1)
    clear e1 e2 nd np e3 s1 J J1 hj I
    induction qs with
    | nil => exact .nil
    | cons x r ih => exact .cons (h x List.mem_cons_self) (ih fun y hy => h y (List.mem_cons_of_mem _ hy))
  have J2 := J1.set (j := j) hr
  rw [List.set_set, set_self hv] at J2
  exact ⟨O1, J2⟩
theorem wpSs_thawLs {qs : Inners} (j : Nat) (hj : δ[j]? = some (some (.own (.lss qs)))) (h : wpSs X Tb sts (δ.set j (some (.d (lssD qs)))) R) : wpSs X Tb sts δ R := fun B O0 M Lk σ τ H I => by
  obtain ⟨O, I⟩ := I
  obtain ⟨O', I'⟩ := I.thawLs hj
  exact h B O0 M Lk σ τ H ⟨O', I'⟩
end
end DL

set_option Elab.async false
set_option linter.all false
set_option maxRecDepth 100000
set_option maxHeartbeats 2000000
/-! DL34: statements about own lists of lists. -/
namespace DL
open PySem PySem.Spec L2
section
variable {X : Cx} {Tb : List Addr} {δ : Dl} {e i : Expr} {es : List Expr} {pos p1 p2 p3 p4 px apos cpos : Pos} {st : Stmt} {sts : List Stmt} {R R' : Rs} {x : Str} {qs : Inners} {P : D → Prop}
theorem AtO.lendD {G : Glo} {B : Hp} {O0 M O' : List Addr} {Lk : Lks} {σ : L2.St} {τ : List (V × D)} {H : Hp} {D' : D} {j : Nat} (I' : AtO G B O0 M Lk O' (δ.set j (some (.d D'))) σ τ H) (hj : j < δ.length) : At G H O' [] ([], []) ((blank δ).set j (some (.d D'))) σ τ H := by
  have hlt : j < δ.length := hj
  have hb : (blank δ).length = δ.length := by unfold blank; rw [List.length_map]
  have key : ∀ (i : Nat) (sl : Sl), ((blank δ).set j (some (.d D')))[i]? = some (some sl) → (δ.set j (some (.d D')))[i]? = some (some sl) ∧ ∀ o, sl ≠ .own o := fun i sl e => by
    by_cases h : j = i
    · subst h
      rw [List.getElem?_set_self (by rw [hb]; exact hlt)] at e
      rw [List.getElem?_set_self hlt]
      exact ⟨e, fun o z => by rw [z] at e; cases e⟩
    · rw [List.getElem?_set_ne h] at e ⊢
      exact blank_get e
  refine ⟨O', fun _ h => h, (fun _ z => nomatch z), I'.live, fun p hp => .inl hp, I'.live, Gr.refl _ _ _, (fun _ z => nomatch z), (fun _ z => nomatch z), (fun _ z => nomatch z), I'.tabs, I'.tmp, ?_, fun i sl e => ?_, fun i k o o' p e1 e2 e3 e4 => ?_, (fun _ z => nomatch z), fun a od u e => .inl (by rw [e]; exact fun z => nomatch z), .none fun i o e => absurd rfl ((key i _ e).2 o)⟩
  · rw [List.length_set, hb]
    exact (by have := I'.len; rw [List.length_set] at this; exact this)
  · obtain ⟨e1, e2⟩ := key i sl e
    obtain ⟨v, h1, h2⟩ := I'.slots i sl e1
    refine ⟨v, h1, ?_⟩
    cases sl with
    | d d => exact h2
    | own o => exact absurd rfl (e2 o)
    | scr ns => exact h2
  · exact absurd rfl ((key i _ e1).2 o)

theorem wpE_lendLs (j : Nat) (hj : δ[j]? = some (some (.own (.lss qs)))) (h : wpE X Tb e ((blank δ).set j (some (.d (lssD qs)))) fun d => scalD d = true ∧ P d) : wpE X Tb e δ P := fun B O0 M Lk σ τ H I Q q => by
  obtain ⟨O, I⟩ := I
  obtain ⟨O', J⟩ := I.thawLs hj
  have J := J.lendD (List.getElem?_eq_some_iff.mp hj).1
  refine h H O' [] ([], []) σ τ H J Q fun v d H' K hd => ?_
  obtain ⟨O2, K⟩ := K
  have g : Gr [] [] H H' := K.gr
  have nf : Nf H H' := fun a od u e => (K.nof a od u e).resolve_right (fun z => nomatch z)
  have r := K.tmp _ List.mem_cons_self
  have I2 := I.grow g (fun _ z => nomatch z) (fun _ z => nomatch z) (fun _ z => nomatch z) (fun _ z => nomatch z) nf
  exact q v d H' ⟨O, I2.push (scal_rp r hd.1)⟩ hd.2
theorem wpT_lendLs {P : Bool → Prop} (j : Nat) (hj : δ[j]? = some (some (.own (.lss qs)))) (h : wpT X Tb e ((blank δ).set j (some (.d (lssD qs)))) P) : wpT X Tb e δ P := fun B O0 M Lk σ τ H I Q q => by
  obtain ⟨O, I⟩ := I
  obtain ⟨O', J⟩ := I.thawLs hj
  have J := J.lendD (List.getElem?_eq_some_iff.mp hj).1
  refine h H O' [] ([], []) σ τ H J Q fun b H' K hd => ?_
  obtain ⟨O2, K⟩ := K
  have g : Gr [] [] H H' := K.gr
  have nf : Nf H H' := fun a od u e => (K.nof a od u e).resolve_right (fun z => nomatch z)
  exact q b H' ⟨O, I.grow g (fun _ z => nomatch z) (fun _ z => nomatch z) (fun _ z => nomatch z) (fun _ z => nomatch z) nf⟩ hd
theorem hid_ne {G : Glo} {B : Hp} {O0 M O : List Addr} {Lk : Lks} {σ : L2.St} {τ : List (V × D)} {H : Hp} (I : AtO G B O0 M Lk O δ σ τ H) {a : Addr} (ha : H a = none) : ∀ r ∈ Lk.2, r.1 ≠ a := fun r hr z => by
  have := (I.hid r hr).1
  rw [z, ha] at this
  cases this
/-- x = [[], []] -/
theorem wpS_newLs2 (j : Nat) (h : ∀ a b : Addr, R.nx (δ.set j (some (.own (.lss [(a, []), (b, [])]))))) (hN : X.N.Nodup) (hi : X.N[j]? = some x := by rfl) (hx : Loc X.env.scope x := by first | exact Or.inl rfl | exact Or.inr rfl)
    (he1 : starEach [.List [] p1, .List [] p2] X.env = (false, eval (.List [] p1) X.env) :: starEach [.List [] p2] X.env := by rfl) (he2 : starEach [.List [] p2] X.env = (false, eval (.List [] p2) X.env) :: starEach [] X.env := by rfl)
    (hs : swapsWith (.List [.List [] p1, .List [] p2] p3) (some (.Name x px)) pos.line X.env = pure false := by rfl) (hf : X.fn x = true ∨ X.env.scope.names.lookup x = some .local := by first | exact .inl rfl | exact .inr rfl) :
    wpS X Tb (.Assign [.Name x px] (.List [.List [] p1, .List [] p2] p3) pos) δ R := fun B O0 M Lk σ τ H I =>
  sem_s (ps_set hN hi hx (pe_lst (pa_cons (pe_lst pa_nil) (pa_cons (pe_lst pa_nil) pa_nil he2) he1)) hs hf) (by
    obtain ⟨L1, hs0⟩ := Lk
    obtain ⟨O, I⟩ := I
    refine ⟨Nat.zero_le _, fun a ha => ⟨Nat.zero_le _, fun b hb => ⟨(show 2 ≤ sizeLine by decide), fun p hp => ?_⟩⟩⟩
    obtain ⟨I1, v1, _⟩ := I.hide (ob := .lst []) ha
    obtain ⟨I2, v2, _⟩ := I1.hide (ob := .lst []) hb
    obtain ⟨I3, v3, _⟩ := I2.hide (ob := .lst [.ref a, .ref b]) hp
    have ab : b ≠ a := fun z => by
      rw [z, upd_same] at hb
      cases hb
    have pb : p ≠ b := fun z => by
      rw [z, upd_same] at hp
      cases hp
    have pa : p ≠ a := fun z => by
      rw [z, upd_ne (Ne.symm ab), upd_same] at hp
      cases hp
    have J := I3.ownLs (hs := hs0) (p := p) (qs := [(a, []), (b, [])]) (j := j) List.mem_cons_self (fun x hx => by
      rcases List.mem_cons.mp hx with z | hx
      · rw [z]
        exact ⟨[], List.mem_cons_of_mem _ (List.mem_cons_of_mem _ List.mem_cons_self), .nil⟩
      · rw [List.mem_singleton.mp hx]
        exact ⟨[], List.mem_cons_of_mem _ List.mem_cons_self, .nil⟩) (List.nodup_cons.mpr ⟨fun z => ab (List.mem_singleton.mp z).symm, List.nodup_cons.mpr ⟨List.not_mem_nil, List.nodup_nil⟩⟩) (fun z => (List.mem_cons.mp z).elim pa fun z => pb (List.mem_singleton.mp z)) fun r hr => by
      have n1 := hid_ne I ha r hr
      have n2 := hid_ne I1 hb r (List.mem_cons_of_mem _ hr)
      have n3 := hid_ne I2 hp r (List.mem_cons_of_mem _ (List.mem_cons_of_mem _ hr))
      exact ⟨List.mem_cons_of_mem _ (List.mem_cons_of_mem _ (List.mem_cons_of_mem _ hr)), n3, fun z => (List.mem_cons.mp z).elim n1 fun z => n2 (List.mem_singleton.mp z)⟩
    exact ⟨_, ⟨_, J⟩, h a b⟩)
/-- x = [], to be a list of lists -/
theorem wpS_newLs0 (j : Nat) (h : R.nx (δ.set j (some (.own (.lss []))))) (hN : X.N.Nodup) (hi : X.N[j]? = some x := by rfl) (hx : Loc X.env.scope x := by first | exact Or.inl rfl | exact Or.inr rfl)
    (hs : swapsWith (.List [] p3) (some (.Name x px)) pos.line X.env = pure false := by rfl) (hf : X.fn x = true ∨ X.env.scope.names.lookup x = some .local := by first | exact .inl rfl | exact .inr rfl) :
    wpS X Tb (.Assign [.Name x px] (.List [] p3) pos) δ R := fun B O0 M Lk σ τ H I =>
  sem_s (ps_set hN hi hx (pe_lst pa_nil) hs hf) (by
    obtain ⟨L1, hs0⟩ := Lk
    obtain ⟨O, I⟩ := I
    refine ⟨Nat.zero_le _, fun p hp => ?_⟩
    obtain ⟨I3, v3, _⟩ := I.hide (ob := .lst []) hp
    have J := I3.ownLs (hs := hs0) (p := p) (qs := []) (j := j) List.mem_cons_self (fun x hx => by cases hx) List.nodup_nil (fun z => by cases z) fun r hr => ⟨List.mem_cons_of_mem _ hr, hid_ne I hp r hr, fun z => by cases z⟩
    exact ⟨_, ⟨_, J⟩, h⟩)
/-- x.append([]) -/
theorem wpS_growLs (j : Nat) (hj : δ[j]? = some (some (.own (.lss qs)))) (hlen : qs.length < sizeLine) (h : ∀ q : Addr, R.nx (δ.set j (some (.own (.lss (qs ++ [(q, [])])))))) (hN : X.N[j]? = some x := by rfl)
    (hv : Vis X.env.scope x := by first | exact Or.inl rfl | exact Or.inr (Or.inl rfl) | exact Or.inr (Or.inr rfl)) (h1 : (x == ("__debug__" : Str)) = false := by decide) (h2 : (x == ("__classdict__" : Str)) = false := by decide)
    (hs : starEach [.List [] p1] X.env = (false, eval (.List [] p1) X.env) :: starEach [] X.env := by rfl) {hpe : ∀ {ta : TE} {t : TA}, PE X (.Name x px) ta → PA X [.List [] p1] t → PE X (.Call (.Attribute (.Name x px) "append" apos) [.List [] p1] [] cpos) (tBM X.K "list" rAppend ta t)}
    (hsw : swapsWith (.Call (.Attribute (.Name x px) "append" apos) [.List [] p1] [] cpos) none pos.line X.env = pure false := by rfl) :
    wpS X Tb (.Expr (.Call (.Attribute (.Name x px) "append" apos) [.List [] p1] [] cpos) pos) δ R := fun B O0 M Lk σ τ H I =>
  sem_s (ps_expr (hpe (pe_var hN hv h1 h2) (pa_cons (pe_lst pa_nil) pa_nil hs)) hsw) (by
    obtain ⟨L1, hs0⟩ := Lk
    obtain ⟨O, I⟩ := I
    obtain ⟨v, e0, p, rfl, hp, hb, hb2, hx, hin⟩ := I.slots j _ hj
    refine ⟨.ref p, e0, .inl ⟨rfl, _, .inl (.inl hx)⟩, Nat.zero_le _, fun q hq => ?_⟩
    obtain ⟨J, ve, _⟩ := I.hide (ob := .lst []) hq
    have pq : p ≠ q := fun z => by
      rw [z, hq] at hx
      cases hx
    refine ⟨p, _, .ref q, rfl, rfl, by rw [upd_ne pq]; exact hx, by rw [List.length_map]; exact hlen, _, ⟨_, J.growLs hj e0 .nil fun r hr => hid_ne I hq r hr⟩, h q⟩)
/-- x[i].m(..) -/
theorem wpS_methLs {m : Str} {r : V → List V → Hp → VK → Prop} (Eff : List D → List D → List D → Prop) (j : Nat) (hj : δ[j]? = some (some (.own (.lss qs))))
    (hr : ∀ {H : Hp} {O : List Addr} {l : Addr} {xs vs : List V} {ds as ds' : List D} {Q : VK}, H l = some (.lst xs) → RpA (vis O H) xs ds → RpA (vis O H) vs as → Eff ds as ds' → (∀ v ys, RpA (vis O H) ys ds' → Q v (upd H l (.lst ys))) → r (.ref l) vs H Q)
    (h : wpE X Tb i δ fun d => ∃ (k : Nat) (q : Addr) (ds : List D), d = .int (k : Nat) ∧ qs[k]? = some (q, ds) ∧ wpA X Tb es δ fun as => ∃ ds', Eff ds as ds' ∧ R.nx (δ.set j (some (.own (.lss (qs.set k (q, ds'))))))) (hN : X.N[j]? = some x := by rfl)
    (hv : Vis X.env.scope x := by first | exact Or.inl rfl | exact Or.inr (Or.inl rfl) | exact Or.inr (Or.inr rfl)) (h1 : (x == ("__debug__" : Str)) = false := by decide) (h2 : (x == ("__classdict__" : Str)) = false := by decide)
    (hpi : PlainIx i := by exact fun _ _ => rfl) {hpe : ∀ {ta : TE} {t : TA}, PE X (.Subscript (.Name x p1) i p2) ta → PA X es t → PE X (.Call (.Attribute (.Subscript (.Name x p1) i p2) m p3) es [] p4) (tBM X.K "list" r ta t)}
    (hsw : swapsWith (.Call (.Attribute (.Subscript (.Name x p1) i p2) m p3) es [] p4) none pos.line X.env = pure false := by rfl) :
    wpS X Tb (.Expr (.Call (.Attribute (.Subscript (.Name x p1) i p2) m p3) es [] p4) pos) δ R := fun B O0 M Lk σ τ H I =>
  sem_s (ps_expr (hpe (pe_ix ix_list (pe_var hN hv h1 h2) pe_sem hpi) pa_sem) hsw) (by
    obtain ⟨O, I⟩ := I
    obtain ⟨v, e0, p, rfl, hp, hb, hb2, hx, hin⟩ := I.slots j _ hj
    refine ⟨.ref p, e0, h B O0 M Lk σ τ H ⟨O, I⟩ _ fun u d H1 J h1 => ?_⟩
    obtain ⟨k, q, ds, rfl, hk, h1⟩ := h1
    obtain ⟨O1, J⟩ := J
    obtain ⟨J0, ru⟩ := J.pop1
    obtain rfl : u = V.int (k : Nat) := ru.int'
    obtain ⟨v1, e1, p', e2, _, _, _, hx1, hin1⟩ := J0.slots j _ hj
    have ev : V.ref p = v1 := Option.some.inj (Option.some.inj (e0.symm.trans e1))
    rw [e2] at ev
    obtain rfl : p = p' := V.ref.inj ev
    obtain ⟨_, zs, hz, _⟩ := hin1 _ (List.mem_of_getElem? hk)
    refine ⟨p, _, (k : Int), .ref q, rfl, rfl, SqL.of hx1, atI_nat (by rw [List.getElem?_map, hk]; rfl), .inl ⟨rfl, _, .inl (.inl hz)⟩, h1 B O0 M Lk σ τ H1 ⟨O1, J0⟩ _ fun ps H2 J2 h2 => ?_⟩
    obtain ⟨ds', hE, hn⟩ := h2
    obtain ⟨O2, J2⟩ := J2
    obtain ⟨J3, rr⟩ := J2.popA
    obtain ⟨v3, e3, p3', e4, _, _, _, hx3, hin3⟩ := J3.slots j _ hj
    obtain ⟨_, xs, hxs, rx⟩ := hin3 _ (List.mem_of_getElem? hk)
    exact hr hxs rx rr hE fun v ys ry => ⟨_, ⟨_, J3.mutIn hj e0 hk ry⟩, hn⟩)
/-! ### append, insert, pop -/
def effAppend (ds as ds' : List D) : Prop := ∃ d, as = [d] ∧ ds.length < sizeLine ∧ ds' = ds ++ [d]
theorem eff_append : ∀ {H : Hp} {O : List Addr} {l : Addr} {xs vs : List V} {ds as ds' : List D} {Q : VK}, H l = some (.lst xs) → RpA (vis O H) xs ds → RpA (vis O H) vs as → effAppend ds as ds' → (∀ v ys, RpA (vis O H) ys ds' → Q v (upd H l (.lst ys))) → rAppend (.ref l) vs H Q := by
  intro H O l xs vs ds as ds' Q hl rx rv hE q
  obtain ⟨d, rfl, h1, rfl⟩ := hE
  obtain ⟨v, rfl, r⟩ := rv.one'
  exact ⟨l, xs, v, rfl, rfl, hl, by rw [rx.length]; exact h1, q _ _ (rx.append (RpA.one r))⟩
def effInsert (ds as ds' : List D) : Prop := ∃ (k : Nat) (d : D), as = [.int (k : Nat), d] ∧ ds.length < sizeLine ∧ (k : Int) < 2 ^ 63 ∧ ds' = ds.take k ++ [d] ++ ds.drop k
def rIns : V → List V → Hp → VK → Prop := fun x vs H Q => ∃ (l : Addr) (xs : List V) (i : Int) (y : V), x = .ref l ∧ vs = [.int i, y] ∧ H l = some (.lst xs) ∧ xs.length < sizeLine ∧ 0 ≤ i ∧ i < 2 ^ 63 ∧ Q .non (upd H l (.lst (xs.take i.toNat ++ [y] ++ xs.drop i.toNat)))
theorem eff_insert : ∀ {H : Hp} {O : List Addr} {l : Addr} {xs vs : List V} {ds as ds' : List D} {Q : VK}, H l = some (.lst xs) → RpA (vis O H) xs ds → RpA (vis O H) vs as → effInsert ds as ds' → (∀ v ys, RpA (vis O H) ys ds' → Q v (upd H l (.lst ys))) → rIns (.ref l) vs H Q := by
  intro H O l xs vs ds as ds' Q hl rx rv hE q
  obtain ⟨k, d, rfl, h1, h2, rfl⟩ := hE
  obtain ⟨v, u, rfl, r1, r2⟩ := rv.two'
  rw [r1.int']
  refine ⟨l, xs, _, u, rfl, rfl, hl, by rw [rx.length]; exact h1, Int.natCast_nonneg _, h2, q _ _ ?_⟩
  rw [Int.toNat_natCast]
  exact ((rx.take k).append (RpA.one r2)).append (rx.drop k)
theorem RpA.erase {H : Hp} : ∀ {vs : List V} {ds : List D} (k : Nat), RpA H vs ds → RpA H (vs.eraseIdx k) (ds.eraseIdx k)
  | _, _, _, .nil => .nil
  | _, _, 0, .cons _ r => r
  | _, _, k + 1, .cons h r => .cons h (RpA.erase k r)
def effPop (ds as ds' : List D) : Prop := ∃ k : Nat, as = [.int (k : Nat)] ∧ k < ds.length ∧ (k : Int) < 2 ^ 63 ∧ ds' = ds.eraseIdx k
theorem eff_pop : ∀ {H : Hp} {O : List Addr} {l : Addr} {xs vs : List V} {ds as ds' : List D} {Q : VK}, H l = some (.lst xs) → RpA (vis O H) xs ds → RpA (vis O H) vs as → effPop ds as ds' → (∀ v ys, RpA (vis O H) ys ds' → Q v (upd H l (.lst ys))) → rPopAt (.ref l) vs H Q := by
  intro H O l xs vs ds as ds' Q hl rx rv hE q
  obtain ⟨k, rfl, h1, h2, rfl⟩ := hE
  obtain ⟨v, rfl, r⟩ := rv.one'
  rw [r.int']
  have hk : k < xs.length := by rw [rx.length]; exact h1
  refine ⟨l, xs, _, k, xs[k], rfl, rfl, hl, by omega, h2, ?_, List.getElem?_eq_getElem hk, q _ _ (rx.erase k)⟩
  unfold seqIndex?
  simp only
  split <;> (try omega)
  simp_all
end
end DL

set_option Elab.async false
set_option linter.all false
set_option maxRecDepth 100000
set_option maxHeartbeats 2000000
/-! GX2: any and all of a generator expression with two fors. -/
namespace GX
open PySem PySem.Spec L2
open Sem (wp)
abbrev gExp (elt t1 i1 t2 i2 : Expr) (scope : Scope) (pos : Pos) : Expr := .GeneratorExp elt [⟨t1, i1, [], 0⟩, ⟨t2, i2, [], 0⟩] scope pos
theorem turn0 (elt t1 i1 t2 i2 : Expr) (scope : Scope) (pos : Pos) (it acc : Value) (env : Env) :
    compTurn (gExp elt t1 i1 t2 i2 scope pos) 0 it acc env = (do
      standAt i1.pos
      match ← pyNext it with
      | none => pure (.done .next)
      | some v =>
        letOwnedTupleGo t1 it v
        assign t1 env v
        let ok ← forIn ([] : List Expr) true (fun c r => if r = true then do let ok ← isTrue c env (eval c env); pure (ForInStep.yield ok) else pure (ForInStep.yield r))
        if ok = true then do
          let x ← eval i2 env
          standAt i2.pos
          let x ← foldedSetIterable i2 env x
          let y ← holding [x] (pyIter x)
          let _ ← runOwn (.compStart (gExp elt t1 i1 t2 i2 scope pos) 1 y acc env) env
          again (.compLoop (gExp elt t1 i1 t2 i2 scope pos) 0 it acc env)
        else again (.compLoop (gExp elt t1 i1 t2 i2 scope pos) 0 it acc env)) := by rfl
theorem turn1 (elt t1 i1 t2 i2 : Expr) (scope : Scope) (pos : Pos) (it acc : Value) (env : Env) :
    compTurn (gExp elt t1 i1 t2 i2 scope pos) 1 it acc env = (do
      standAt i2.pos
      match ← pyNext it with
      | none => pure (.done .next)
      | some v =>
        letOwnedTupleGo t2 it v
        assign t2 env v
        let mut ok := true
        for c in ([] : List Expr) do
          if ok then ok ← isTrue c env (eval c env)
        if ok then
          (do let v ← eval elt env; standAt elt.pos; let _ ← yieldOut env v)
        again (.compLoop (gExp elt t1 i1 t2 i2 scope pos) 1 it acc env)) := by rfl
abbrev c0 (elt t1 i1 t2 i2 : Expr) (scope : Scope) (pos : Pos) (it : Addr) (cenv : Env) : Code := .compLoop (gExp elt t1 i1 t2 i2 scope pos) 0 (.ref it) .none cenv
abbrev c1 (elt t1 i1 t2 i2 : Expr) (scope : Scope) (pos : Pos) (it : Addr) (cenv : Env) : Code := .compLoop (gExp elt t1 i1 t2 i2 scope pos) 1 (.ref it) .none cenv
abbrev c1s (elt t1 i1 t2 i2 : Expr) (scope : Scope) (pos : Pos) (it : Addr) (cenv : Env) : Code := .compStart (gExp elt t1 i1 t2 i2 scope pos) 1 (.ref it) .none cenv
theorem over_in1 {A2 : Around} {elt t1 i1 t2 i2 : Expr} {scope : Scope} {pos p : Pos} {it it2 : Addr} {cenv : Env} {k : Result → Sem Fin} {g : Bool} {l : List Value} :
    A2.over (c1 elt t1 i1 t2 i2 scope pos it2 cenv) [.ret k none g l (c0 elt t1 i1 t2 i2 scope pos it cenv) p []] = A2.over (c0 elt t1 i1 t2 i2 scope pos it cenv) [] := by
  unfold Around.over
  rfl
theorem over_in1s {A2 : Around} {elt t1 i1 t2 i2 : Expr} {scope : Scope} {pos p : Pos} {it it2 : Addr} {cenv : Env} {k : Result → Sem Fin} {g : Bool} {l : List Value} :
    A2.over (c1s elt t1 i1 t2 i2 scope pos it2 cenv) [.ret k none g l (c0 elt t1 i1 t2 i2 scope pos it cenv) p []] = A2.over (c0 elt t1 i1 t2 i2 scope pos it cenv) [] := by
  unfold Around.over
  rfl
abbrev genX2 (X : Cx) (x y : Str) (z : Shared) (H : Hp) (cenv : Env) (fp : List Addr) (A' : Around) : Cx :=
  { X with s_0 := z, H_0 := H, env := cenv, A := A', N := x :: y :: X.N, outer := X.stack, stack := cenv :: X.stack, ex := fp, fn := fun _ => false, calm := true, pn := [], xe := fun _ _ => False }

section
variable {X : Cx} {pins : List (Addr × Obj)} {σ : L2.St} {H : Hp} {z : Shared}
theorem gen_start2 {scope : Scope} {x x2 : Str} {fp : List Addr} {code : Value} {A' : Around} {m : Str → Option Value} {h5 : Heap} {g' : Array GenState} {t' : Nat} (I : Inv X pins σ H z) (ok : GenOk X.N X.env.scope scope x) (hfp : ∀ b ∈ fp, FpOk X pins H b ∧ b < z.heap.objs.size)
    (hA : A'.handled = none) (hF : A'.frames = some (gEnv X scope code z.heap.objs.size :: X.stack)) (kp : ∀ b o, z.heap.get? b = some o → h5.get? b = some o) (hn : h5.Ns z.heap.objs.size m) (hg : PyProof.Rows.AllBare g') :
    Inv (genX2 X x x2 z H (gEnv X scope code z.heap.objs.size) fp A') [] (none :: none :: σ) H { z with heap := h5, gens := g', toks := t' } := by
  have cm : ∀ {y c}, (cloFrom X.env.cells scope.names []).lookup y = some c → X.env.cells.lookup y = some c ∧ c < z.heap.objs.size := fun {y c} e => by
    rcases cloFrom_mem (PySem.mem_of_lookup e) with hm | ⟨h1, rfl⟩
    · cases hm
    · obtain ⟨c, hc⟩ := (ok.free _ h1 rfl).elim (fun k => I.ok.has _ (.inl k)) fun k => I.ok.has _ (.inr k)
      rw [hc]
      obtain ⟨w, q⟩ := I.cell _ _ hc
      exact ⟨rfl, q.lt⟩
  have look : ∀ {y}, scope.names.lookup y = some .free → ∃ c, (cloFrom X.env.cells scope.names []).lookup y = some c ∧ X.env.cells.lookup y = some c := fun {y} hl => by
    obtain ⟨c', e'⟩ := mem_lookup (cloFrom_has (cells := X.env.cells) (acc := []) (PySem.mem_of_lookup hl))
    exact ⟨c', e', (cm e').1⟩
  have nocell : ∀ {y}, scope.names.lookup y ≠ some .cell := fun {y} e => ok.cell _ (PySem.mem_of_lookup e) rfl
  have okB : (genX2 X x x2 z H (gEnv X scope code z.heap.objs.size) fp A').Ok := by
    refine ⟨I.ok.mod, ok.kind, I.ok.glob, rfl, Nat.le_refl _, fun y u c e1 e2 => I.ok.inj y u c (cm e1).1 (cm e2).1, fun y hy => ?_, fun y c q => (by cases q), fun _ => hA, hF, .inr ⟨rfl, rfl⟩, fun b hb => ⟨Nat.ne_of_lt (hfp b hb).2, fun y c e q => (hfp b hb).1.2.2.2.2.1 y c (cm e).1 q⟩,
      I.bs, Nat.le_trans I.ok.bsz I.sz, fun b o e hb => ?_, fun b hb q => ?_, I.stack, I.stkFree⟩
    · rcases hy with k | k
      · exact absurd k nocell
      · obtain ⟨c, e, _⟩ := look k
        exact ⟨c, e⟩
    · rcases (hfp b hb).1.2.2.2.1 with q | q
      · exact I.ok.noex b o e q
      · exact absurd (Nat.lt_of_lt_of_le (Heap.lt_size e) (Nat.le_trans I.ok.bsz q)) (Nat.lt_irrefl _)
    · rcases List.mem_cons.mp (I.stkSub b q) with q | q
      · exact (hfp b hb).1.2.1 q
      · exact (hfp b hb).1.2.2.1 q
  refine ⟨okB, rfl, hg, Un.kept kp, ⟨m, hn, fun i y av e1 e2 e3 => ?_⟩, fun y c e => ?_, I.hok.fresh (Nat.le_refl _), fun y c e => I.freeC y c (cm e).1, fun p hp => absurd (show p ∈ ([] : List (Addr × Obj)) ++ [] from hp) (by simp), I.hok.kept kp, ?_⟩
  · cases i with
    | zero => cases e2
    | succ i =>
     cases i with
     | zero => cases e2
     | succ i =>
      have e1 : X.N[i]? = some y := e1
      have e2 : σ[i]? = some (some av) := e2
      have nloc : scope.names.lookup y ≠ some .local := fun q => ok.own _ (PySem.mem_of_lookup q) rfl (List.mem_of_getElem? e1)
      have hfr : scope.names.lookup y = some .free := by
        rcases e3 with k | k | k
        · exact absurd k nloc
        · exact absurd k nocell
        · exact k
      obtain ⟨mm, hnn, hl⟩ := I.loc
      have hvis : Vis X.env.scope y := (ok.free _ (PySem.mem_of_lookup hfr) rfl).elim (fun k => .inr (.inl k)) (fun k => .inr (.inr k))
      obtain ⟨u, r, q⟩ := hl i y av e1 e2 hvis
      refine ⟨u, r, .inr ⟨.inr hfr, ?_⟩⟩
      obtain ⟨c, h1, h2⟩ := look hfr
      rcases q with ⟨k, _⟩ | ⟨_, c', e', q⟩
      · have k : X.env.scope.names.lookup y = some .local := k
        rcases ok.free _ (PySem.mem_of_lookup hfr) rfl with k' | k' <;> rw [show X.env.scope.names.lookup y = _ from k'] at k <;> cases k
      · rw [h2] at e'
        cases e'
        exact ⟨c, h1, q.keeps kp⟩
  · obtain ⟨w, q⟩ := I.cell y c (cm e).1
    exact ⟨w, q.keeps kp⟩
  · show σ.length + 1 + 1 = X.N.length + 1 + 1
    rw [I.len]
end

section
variable {X : Cx} {pins : List (Addr × Obj)} {σ : L2.St} {H : Hp} {z : Shared}
/-- back in the caller's context -/
theorem gen_out2 {x x2 : Str} {cenv : Env} {fp : List Addr} {A' : Around} {pl : List (Addr × Obj)} {σ' : L2.St} {H' : Hp} {s : Shared} {g' : Array GenState} {t' : Nat} {h' : Heap} (I : Inv X pins σ H z) (hfp : ∀ b ∈ fp, FpOk X pins H b)
    (J : Inv (genX2 X x x2 z H cenv fp A') pl σ' H' s) (hg : PyProof.Rows.AllBare g') (hk : ∀ b o, s.heap.get? b = some o → h'.get? b = some o) : Inv X pins σ H' { s with heap := h', gens := g', toks := t' } := by
  have K : Inv X pins σ H' s := I.call' (ch := fp) J.os J.base J.hok J.bare fun b hb => ⟨(hfp b hb).2.2.2.1, (hfp b hb).2.1, (hfp b hb).2.2.2.2.1, (hfp b hb).2.2.2.2.2⟩
  have K2 : Inv X pins σ H' { s with heap := h', toks := t' } := K.kept hk
  exact ⟨K2.ok, K2.os, hg, K2.base, K2.loc, K2.cell, K2.free, K2.freeC, K2.pin, K2.hok, K2.len⟩
end

section
variable {X : Cx} {σ : L2.St} {H : Hp} {z : Shared}
/-- what the two loops are to do -/
def Nest (X Y : Cx) (σ : L2.St) (gt gt2 : TG) (wi2 : TI) (te : TE) (sb : Bool) (J : It) (Qe Qs : Hp → Prop) (W : Nat → Nat → Hp → Prop) : Prop :=
  ∀ i m H1, W i m H1 → (J.stop i H1 ∧ Qe H1) ∨ (J.go i H1 ∧ ∀ y H2, J.yld i H1 y H2 → ∀ o1 o2, gt y (o1 :: o2 :: σ) H2 fun σ2 H3 => ∃ a1, σ2 = a1 :: o2 :: σ ∧ wi2 σ2 H3 fun J2 H4 => ∃ W2 : Nat → Nat → Hp → Prop, (∃ m2, m2 < m ∧ W2 0 m2 H4) ∧
    ∀ k m2 H5, m2 < m → W2 k m2 H5 → (J2.stop k H5 ∧ ∃ m', m' ≤ m2 ∧ W (i + 1) m' H5) ∨ (J2.go k H5 ∧ ∀ y2 H6, J2.yld k H5 y2 H6 → ∀ b2, gt2 y2 (a1 :: b2 :: σ) H6 fun σ3 H7 => ∃ a2, σ3 = a1 :: a2 :: σ ∧ te σ3 H7 fun v H8 => ∃ b, v = .bl b ∧ if b = sb then Qs H8 else ∃ m2', m2' < m2 ∧ W2 (k + 1) m2' H8))
theorem fp_more {Y : Cx} {pl : List (Addr × Obj)} {H H' : Hp} {b : Addr} (h : FpOk Y pl H b) (n : H' b = none) : FpOk Y pl H' b := ⟨n, h.2⟩
/-- the inner loop -/
theorem seg_in {elt t1 i1 t2 i2 : Expr} {scope : Scope} {pos : Pos} {it it2 : Addr} {cenv : Env} {Y : Cx} {fp2 : List Addr} {tn2 : Nat → Heap → Prop} {J2 : It} {gt2 : TG} {te : TE} {A2 : Around} {R : GenEnd} {pa : Addr × Obj} {pl : List (Addr × Obj)} {g : Nat} {sb : Bool} {Qs : Hp → Prop} {St : Nat → Hp → Prop} {W2 : Nat → Nat → Hp → Prop} {σ : L2.St} {a1 : Option V} {M : Nat} {kk : Result → Sem Fin} {lv : List Value} {p0 : Pos}
    (hcalm : Y.calm = true) (henv : Y.env = cenv) (hA : A2.over (c0 elt t1 i1 t2 i2 scope pos it cenv) [] = Y.A) (hco : cenv.scope.isCoroutine = false) (T : Turn Y.prog Y.w Y.K t2 J2 fp2 it2 tn2) (pg : PG Y t2 gt2) (pe : PE Y elt te) (hxe : Y.xe = fun _ _ => False) (hpa : pa ∈ pl)
    (fpc : ∀ b ∈ fp2, ∀ H', H' b = none → FpOk Y pl H' b)
    (turn : ∀ k m2 H5, m2 < M → W2 k m2 H5 → (J2.stop k H5 ∧ St m2 H5) ∨ (J2.go k H5 ∧ ∀ y2 H6, J2.yld k H5 y2 H6 → ∀ b2, gt2 y2 (a1 :: b2 :: σ) H6 fun σ3 H7 => ∃ a2, σ3 = a1 :: a2 :: σ ∧ te σ3 H7 fun v H8 => ∃ b, v = .bl b ∧ if b = sb then Qs H8 else ∃ m2', m2' < m2 ∧ W2 (k + 1) m2' H8))
    (stopK : ∀ (m2 n : Nat) (s₀ s : Shared) (H5 : Hp) (a2 : Option V), m2 < M → m2 < n → St m2 H5 → Inv Y pl (a1 :: a2 :: σ) H5 s → g < s.gens.size → Seg (model Y.prog Y.w) A2 R (GYld Y pa g sb Qs) n s₀ (c0 elt t1 i1 t2 i2 scope pos it cenv) (kk (.ok .next)) [] s) :
    ∀ (m2 n k : Nat) (s₀ s : Shared) (o2 : Option V) (H5 : Hp), m2 < M → m2 < n → W2 k m2 H5 → Inv Y pl (a1 :: o2 :: σ) H5 s → tn2 k s.heap → (∀ b ∈ fp2, H5 b = none) → g < s.gens.size →
      Seg (model Y.prog Y.w) A2 R (GYld Y pa g sb Qs) n s₀ (c1 elt t1 i1 t2 i2 scope pos it2 cenv) ((model Y.prog Y.w).den (c1 elt t1 i1 t2 i2 scope pos it2 cenv)) [.ret kk none false lv (c0 elt t1 i1 t2 i2 scope pos it cenv) p0 []] s := by
  subst henv
  intro m2
  induction m2 using Nat.strongRecOn with
  | _ m2 ih =>
    intro n k s₀ s o2 H5 hM hmn w I st nf hgs
    show Seg _ A2 _ _ _ s₀ _ ((compTurn (gExp elt t1 i1 t2 i2 scope pos) 1 (.ref it2) .none Y.env).onRaise (fun x => do noteFrame x Y.env; theTreesLotGoes x)) [_] s
    rw [turn1, Sem.onRaise_eq_wrap]
    refine seg_bind_wrap (wpAny_standAt ?_)
    rcases turn k m2 H5 hM w with ⟨stop, qs⟩ | ⟨go, step⟩
    · refine seg_bind_wrap ?_
      rw [over_in1, hA]
      refine thnG (T.done Y rfl rfl rfl hcalm k pl s _ H5 (fun _ _ => False) I (fun b hb => fpc b hb _ (nf b hb)) st stop) fun r s1 g1 ⟨hr, I1⟩ => ?_
      subst hr
      exact seg_leaf (.ok .next) (stopK m2 n s₀ s1 H5 o2 hM hmn qs I1 (Nat.lt_of_lt_of_le hgs g1))
    · refine seg_bind_wrap ?_
      rw [over_in1, hA]
      refine thnG (T.item Y rfl rfl rfl hcalm k pl s _ H5 (fun _ _ => False) I (fun b hb => fpc b hb _ (nf b hb)) st go) fun r s1 g1 ⟨u, hr, h1⟩ => ?_
      subst hr
      refine seg_bind_wrap ?_
      rw [over_in1, hA]
      refine thnG h1 fun _ s2 g2 ⟨y, H2, I2, r2, y2, st2, n2⟩ => ?_
      have I2' := I2.pinned (fun b hb => fpc b hb _ (n2 b hb)) (T.obj _ _ st2)
      refine seg_bind_wrap ?_
      rw [over_in1, hA]
      have hp3 := pg.run _ s2 _ H2 y u _ I2' r2 (step y H2 y2 o2)
      rw [hxe] at hp3
      refine thnG hp3 fun _ s3 g3 ⟨σ3, H3, I3, a2, e3, q3⟩ => ?_
      subst e3
      simp only [List.forIn_nil]
      refine seg_bind_wrap (wpAny_pure ?_)
      simp only [if_true]
      have hy : ∀ v, yieldOut Y.env v = yieldValue v := fun v => by simp only [yieldOut, hco, Bool.false_eq_true, if_false]
      simp only [hy]
      rw [Sem.bind_eq_wrap', Sem.bind_eq_wrap', Sem.wrap_wrap, Sem.wrap_wrap]
      refine seg_wrap ?_
      rw [over_in1, hA]
      have hp4 := pe.run _ s3 _ H3 _ I3 q3
      rw [hxe] at hp4
      refine thnG hp4 fun v s4 g4 ⟨yv, H4, I4, r4, b, e4, q4⟩ => ?_
      subst e4
      cases r4
      have gs4 : g < s4.gens.size := by omega
      obtain ⟨n', rfl⟩ : ∃ n', n = n' + 1 := ⟨n - 1, by omega⟩
      have pin4 : ∀ c ∈ fp2, ∀ oc, s2.heap.get? c = some oc → s4.heap.get? c = some oc ∧ H4 c = none := fun c hcf oc e =>
        let q := I4.pin (c, oc) (List.mem_append_right _ (List.mem_append_right _ (mem_pinsAt hcf e)))
        ⟨q.1, q.2.1⟩
      have J4 : Inv Y pl (a1 :: a2 :: σ) H4 s4 := I4.unpinned
      have J5 : Inv Y [pa] (a1 :: a2 :: σ) H4 s4 := J4.pins_of fun p hp => J4.pin p (List.mem_append_right _ (by rw [List.mem_singleton.mp hp]; exact hpa))
      refine seg_at (seg_yield rfl rfl rfl ⟨b, _, H4, rfl, gs4, J5, ?_⟩)
      by_cases hb : b = sb
      · rw [if_pos hb] at q4 ⊢
        exact q4
      · rw [if_neg hb] at q4 ⊢
        obtain ⟨m', hm', w'⟩ := q4
        intro s5 e5 o5 g5 b5
        refine seg_again rfl (ih m' hm' n' (k + 1) s5 s5 a2 H4 (by omega) (by omega) w' (inv_same J4 e5 o5 b5) ?_ (fun c hcf => ?_) g5)
        · rw [e5]
          exact T.keep _ _ _ st2 fun c hcf oc e => (pin4 c hcf oc e).1
        · obtain ⟨oc, e, _⟩ := T.obj _ _ st2 c hcf
          exact (pin4 c hcf oc e).2
theorem gen_seg2 {elt t1 i1 t2 i2 : Expr} {scope : Scope} {pos : Pos} {it : Addr} {cenv : Env} {x x2 : Str} {fp : List Addr} {tn : Nat → Heap → Prop} {J : It} {gt gt2 : TG} {wi2 : TI} {te : TE} {A2 A' : Around} {pa : Addr × Obj} {g : Nat} {sb : Bool} {Qe Qs : Hp → Prop} {W : Nat → Nat → Hp → Prop}
    (hco : cenv.scope.isCoroutine = false) (T : Turn X.prog X.w X.K t1 J fp it tn) (hA' : A2.over (c0 elt t1 i1 t2 i2 scope pos it cenv) [] = A') (pg : PG (genX2 X x x2 z H cenv fp A') t1 gt) (hi2 : PI (genX2 X x x2 z H cenv fp A') t2 i2 wi2) (hs2 : ∀ v, foldedSetIterable i2 cenv v = pure v) (pg2 : PG (genX2 X x x2 z H cenv fp A') t2 gt2) (pe : PE (genX2 X x x2 z H cenv fp A') elt te) (hpa : ∀ b ∈ fp, pa.1 ≠ b)
    (turn : Nest X (genX2 X x x2 z H cenv fp A') σ gt gt2 wi2 te sb J Qe Qs W) :
    ∀ (m n i : Nat) (s₀ s : Shared) (o1 o2 : Option V) (H1 : Hp), m < n → W i m H1 → Inv (genX2 X x x2 z H cenv fp A') [pa] (o1 :: o2 :: σ) H1 s → tn i s.heap → (∀ b ∈ fp, H1 b = none) → g < s.gens.size →
      Seg (model X.prog X.w) A2 (GEnd (genX2 X x x2 z H cenv fp A') pa Qe) (GYld (genX2 X x x2 z H cenv fp A') pa g sb Qs) n s₀ (c0 elt t1 i1 t2 i2 scope pos it cenv) ((model X.prog X.w).den (c0 elt t1 i1 t2 i2 scope pos it cenv)) [] s := by
  have stat : ∀ {pl : List (Addr × Obj)} {σ' : L2.St} {H' : Hp} {s' : Shared}, (∀ p ∈ pl, p = pa) → Inv (genX2 X x x2 z H cenv fp A') pl σ' H' s' → (∀ b ∈ fp, H' b = none) → ∀ b ∈ fp, FpOk (genX2 X x x2 z H cenv fp A') pl H' b := fun {pl σ' H' s'} hpl I' hn b hb =>
    ⟨hn b hb, (I'.ok.exf b hb).1, I'.ok.exfs b hb, .inl hb, fun y c e => (I'.ok.exf b hb).2 y c e, fun p hp => by
      have e : p = pa := hpl p (by simpa using hp)
      rw [e]
      exact hpa b hb⟩
  have one : ∀ p ∈ [pa], p = pa := fun p hp => by simpa using hp
  intro m
  induction m using Nat.strongRecOn with
  | _ m ih =>
    intro n i s₀ s o1 o2 H1 hmn w I st nf hgs
    show Seg _ A2 _ _ _ s₀ _ ((compTurn (gExp elt t1 i1 t2 i2 scope pos) 0 (.ref it) .none cenv).onRaise (leaving cenv)) [] s
    rw [turn0, Sem.onRaise_eq_wrap]
    refine seg_bind_wrap (wpAny_standAt ?_)
    rcases turn i m H1 w with ⟨stop, qe⟩ | ⟨go, step⟩
    · refine seg_bind_wrap ?_
      rw [hA']
      refine thnF (T.done (genX2 X x x2 z H cenv fp A') rfl rfl rfl rfl i [pa] s _ H1 (fun _ _ => False) I (stat one I nf) st stop) fun r s1 ⟨hr, I1⟩ => ?_
      subst hr
      exact seg_end (.ok .next) ⟨rfl, _, H1, I1, qe⟩
    · refine seg_bind_wrap ?_
      rw [hA']
      refine thnG (T.item (genX2 X x x2 z H cenv fp A') rfl rfl rfl rfl i [pa] s _ H1 (fun _ _ => False) I (stat one I nf) st go) fun r s1 g1 ⟨u, hr, h1⟩ => ?_
      subst hr
      refine seg_bind_wrap ?_
      rw [hA']
      refine thnG h1 fun _ s2 g2 ⟨y, H2, I2, r2, y2, st2, n2⟩ => ?_
      have I2' := I2.pinned (stat one I2 n2) (T.obj _ _ st2)
      refine seg_bind_wrap ?_
      rw [hA']
      refine thnG (pg.run _ s2 _ H2 y u _ I2' r2 (step y H2 y2 o1 o2)) fun _ s3 g3 ⟨σ3, H3, I3, a1, e3, q3⟩ => ?_
      subst e3
      simp only [List.forIn_nil]
      refine seg_bind_wrap (wpAny_pure ?_)
      simp only [if_true]
      refine seg_bind_wrap ?_
      rw [hA']
      refine thnG (hi2.run _ s3 _ H3 _ I3 q3) fun xv s4 g4 h4 => ?_
      refine seg_bind_wrap (wpAny_standAt ?_)
      rw [hs2]
      refine seg_bind_wrap (wpAny_pure ?_)
      refine seg_bind_wrap (wpAny_holding ?_)
      rw [hA']
      refine thnG h4 fun itv s5 g5 h5 => ?_
      obtain ⟨it2, fp2, tn2, J2, H5, rfl, I5, T2, st5, f5, W2, ⟨m2, hm2, w2⟩, turn2⟩ := h5
      rw [Sem.bind_eq_wrap', Sem.wrap_wrap]
      refine seg_call fun p => ?_
      show Seg _ A2 _ _ _ s₀ _ ((compStart (gExp elt t1 i1 t2 i2 scope pos) 1 (.ref it2) .none cenv).onRaise (fun x => do noteFrame x cenv; standAt theWindowsPlace)) [_] s5
      unfold compStart
      rw [Sem.onRaise_eq_wrap]
      show Seg _ A2 _ _ _ s₀ _ ((ask >>= _).wrap _ _ _ _) [_] s5
      refine seg_bind_wrap (wpAny_askSetting ?_)
      have pin5 : ∀ c ∈ fp, ∀ oc, s2.heap.get? c = some oc → ∀ {σ' : L2.St} {H' : Hp} {s' : Shared}, Inv (genX2 X x x2 z H cenv fp A') ([pa] ++ pinsAt fp s2.heap) σ' H' s' → s'.heap.get? c = some oc ∧ H' c = none := fun c hcf oc e σ' H' s' I' =>
        let q := I'.pin (c, oc) (List.mem_append_right _ (List.mem_append_right _ (mem_pinsAt hcf e)))
        ⟨q.1, q.2.1⟩
      have again := fun (kk : Result → Sem Fin) (lv : List Value) (p0 : Pos) (hk : ∀ (m2' n' : Nat) (s₀' s' : Shared) (H' : Hp) (a2 : Option V), m2' < m → m2' < n' → (∃ m', m' ≤ m2' ∧ W (i + 1) m' H') → Inv (genX2 X x x2 z H cenv fp A') ([pa] ++ pinsAt fp s2.heap) (a1 :: a2 :: σ) H' s' → g < s'.gens.size →
          Seg (model X.prog X.w) A2 (GEnd (genX2 X x x2 z H cenv fp A') pa Qe) (GYld (genX2 X x x2 z H cenv fp A') pa g sb Qs) n' s₀' (c0 elt t1 i1 t2 i2 scope pos it cenv) (kk (.ok .next)) [] s') =>
        seg_again (M := model X.prog X.w) (A := A2) (R := GEnd (genX2 X x x2 z H cenv fp A') pa Qe) (Y := GYld (genX2 X x x2 z H cenv fp A') pa g sb Qs) (n := n) (s₀ := s₀) (c := c1s elt t1 i1 t2 i2 scope pos it2 cenv) (fs := [.ret kk none false lv (c0 elt t1 i1 t2 i2 scope pos it cenv) p0 []]) (s := s5) (c' := c1 elt t1 i1 t2 i2 scope pos it2 cenv) rfl
          (seg_in (Y := genX2 X x x2 z H cenv fp A') (R := GEnd (genX2 X x x2 z H cenv fp A') pa Qe) (St := fun m2' H' => ∃ m', m' ≤ m2' ∧ W (i + 1) m' H') (M := m) rfl rfl hA' hco T2 pg2 pe rfl (List.mem_append_left _ List.mem_cons_self) (fun b hb H' hn => fp_more (f5 b hb) hn) turn2 hk m2 n 0 s₀ s5 o2 H5 hm2 (by omega) w2 I5 st5 (fun b hb => (f5 b hb).1) (by omega))
      have hk : ∀ (m2' n' : Nat) (s₀' s' : Shared) (H' : Hp) (a2 : Option V), m2' < m → m2' < n' → (∃ m', m' ≤ m2' ∧ W (i + 1) m' H') → Inv (genX2 X x x2 z H cenv fp A') ([pa] ++ pinsAt fp s2.heap) (a1 :: a2 :: σ) H' s' → g < s'.gens.size →
          Seg (model X.prog X.w) A2 (GEnd (genX2 X x x2 z H cenv fp A') pa Qe) (GYld (genX2 X x x2 z H cenv fp A') pa g sb Qs) n' s₀' (c0 elt t1 i1 t2 i2 scope pos it cenv) (.pure (.again (c0 elt t1 i1 t2 i2 scope pos it cenv))) [] s' := fun m2' n' s₀' s' H' a2 h1 h2 ⟨m', h3, w'⟩ I' g' =>
        seg_again rfl (ih m' (by omega) n' (i + 1) s₀' s' a1 a2 H' (by omega) w' I'.unpinned (T.keep _ _ _ st2 fun c hcf oc e => (pin5 c hcf oc e I').1) (fun c hcf => by
          obtain ⟨oc, e, _⟩ := T.obj _ _ st2 c hcf
          exact (pin5 c hcf oc e I').2) g')
      split
      · exact again _ _ _ hk
      · refine seg_bind_wrap (wpAny_rule ?_)
        show Seg _ A2 _ _ _ s₀ _ ((standAt i2.pos >>= _).wrap _ _ _ _) [_] _
        exact seg_bind_wrap (wpAny_standAt (seg_bind_wrap (T2.self _ 0 _ _ _ st5 (again _ _ _ hk))))
end
end GX

set_option Elab.async false
set_option linter.all false
set_option maxRecDepth 100000
set_option maxHeartbeats 2000000
/-! GX3: a generator expression with two fors is made, any and all of it. -/
namespace GX
open PySem PySem.Spec L2
open Sem (wp)
theorem eval_gen2 (elt t1 i1 t2 i2 : Expr) (scope : Scope) (pos : Pos) (env : Env) (hco : scope.isCoroutine = false) : eval (gExp elt t1 i1 t2 i2 scope pos) env = (do
      let x ← eval i1 env; standAt i1.pos; let x ← genFold i1 env x; let it ← holding [x] (pyIter x); enterFrame; let cl ← closureFor scope env; let cd ← genexprCode env pos (env.qual ++ "<genexpr>") scope; let bi ← builtinsFor env.globals env.builtins
      let ce ← newFunctionEnv scope env.globals cl [(".0", it)] (env.qual ++ "<genexpr>.") none cd none bi
      newGenerator (.compStart (gExp elt t1 i1 t2 i2 scope pos) 0 it .none ce) "<genexpr>" (env.qual ++ "<genexpr>")) := by
  rw [arm_eval_GeneratorExp]; simp only [hco, Bool.false_eq_true, if_false]; cases i1 <;> rfl
section
variable {M : Model} {A : Around} {E : Value → Shared → Prop} {s : Shared}
theorem make2 {env : Env} {elt t1 i1 t2 i2 : Expr} {scope : Scope} {cl : List (Str × Addr)} {pos : Pos} {Q : Value → Shared → Prop} (hco : scope.isCoroutine = false) (hclos : closureFor scope env = pure cl) (hcell : ∀ y ∈ scope.names, y.2 ≠ .cell) (h0 : scope.names.lookup (".0" : Str) = some NameKind.local) (hkind : scope.kind = .function)
    (hroom : A.depth < recursionLimit) (h : wpAny M A (eval i1 env) (fun xv s₁ => wpAny M A (pyIter xv) (fun it s₂ => s₂.heap.NoLimit ∧ wpAny M A (genexprCode env pos (env.qual ++ "<genexpr>") scope) (fun code s₃ => wpAny M A (builtinsFor env.globals env.builtins) (fun bi s₄ => ∀ h', h'.Ns s₄.heap.objs.size (fun y => if y = ".0" then some it else none) → Heap.SameBut s₄.heap.objs.size (s₄.heap.push { cls := .type "frame", data := .dict #[] }) h' →
          Q (.ref h'.objs.size) { s₄ with gens := s₄.gens.push (.fresh (.compStart (gExp elt t1 i1 t2 i2 scope pos) 0 it .none (genEnv scope cl s₄.heap.objs.size code bi env))), toks := s₄.toks + 1 + 1 + 1, heap := h'.push { cls := .type "generator", data := .fields #[.int s₄.gens.size 0, .str "<genexpr>" (s₄.toks + 1), .str (env.qual ++ "<genexpr>") (s₄.toks + 1 + 1)] } }) E s₃) E s₂) E s₁) E s)
    (hs : ∀ x, genFold i1 env x = pure x) : wpAny M A (eval (gExp elt t1 i1 t2 i2 scope pos) env) Q E s := by
  rw [eval_gen2 _ _ _ _ _ _ _ _ hco, hclos]
  refine wpAny_bind (wpAny_mono h (fun xv s₁ g1 => ?_) fun _ _ e => e)
  refine wpAny_bind (wpAny_standAt ?_)
  refine wpAny_bind (wpAny_of_eq (hs xv) ?_)
  refine wpAny_bind (wpAny_holding (wpAny_mono g1 (fun it s₂ g2 => ?_) fun _ _ e => e))
  refine wpAny_bind (wpAny_enterFrame g2.1 hroom ?_)
  refine wpAny_bind (wpAny_pure ?_)
  refine wpAny_bind (wpAny_mono g2.2 (fun code s₃ g3 => ?_) fun _ _ e => e)
  refine wpAny_bind (wpAny_mono g3 (fun bi s₄ g4 => ?_) fun _ _ e => e)
  have hbnd : ∀ y ∈ ([((".0" : Str), it)] : List (Str × Value)), scope.names.lookup y.1 = some NameKind.local := by
    intro y ey
    rcases List.mem_cons.mp ey with rfl | ey
    · exact h0
    · cases ey
  refine wpAny_bind (wpAny_newFunctionEnv hcell hbnd (fun h' hnn hss => ?_) hkind)
  have e : (fun y : Str => ([((".0" : Str), it)] : List (Str × Value)).reverse.lookup y) = fun y : Str => if y = (".0" : Str) then some it else none := by
    funext y
    by_cases ey : y = ".0"
    · subst ey; simp
    · have : (y == (".0" : Str)) = false := by simpa using ey
      simp [List.lookup, this, ey]
  rw [e] at hnn
  simp only [ newGenerator, newFields ]
  refine wpAny_bind (wpAny_newGen (wpAny_bind (wpAny_mkText (wpAny_bind (wpAny_mkText (wpAny_newObj_type ?_ (by size_fits)))))))
  exact g4 h' hnn hss
end
theorem gen_first2 {elt t1 i1 t2 i2 : Expr} {scope : Scope} {pos : Pos} {it : Addr} {cenv : Env} {A2 : Around} {R : GenEnd} {Y : Protocol} {n : Nat} {s : Shared} {tn : Nat → Heap → Prop} {P : Program} {w : World} {K : PySem.W.Frag} {J : It} {fp : List Addr}
    (T : Turn P w K t1 J fp it tn) (st : tn 0 s.heap) (loop : ∀ s₀, Seg (model P w) A2 R Y n s₀ (c0 elt t1 i1 t2 i2 scope pos it cenv) ((model P w).den (c0 elt t1 i1 t2 i2 scope pos it cenv)) [] s) :
    (GenState.fresh (.compStart (gExp elt t1 i1 t2 i2 scope pos) 0 (.ref it) .none cenv)).Goes (model P w) A2 R Y n (.send .none) s := by
  refine ⟨rfl, ?_⟩
  show Seg _ A2 _ _ _ s _ ((compStart (gExp elt t1 i1 t2 i2 scope pos) 0 (.ref it) .none cenv).onRaise (leaving cenv)) [] s
  unfold compStart
  rw [Sem.onRaise_eq_wrap]
  show Seg _ A2 _ _ _ s _ ((ask >>= _).wrap _ _ _ _) [] s
  refine seg_bind_wrap (wpAny_askSetting ?_)
  have again := seg_again (M := model P w) (A := A2) (R := R) (Y := Y) (n := n) (s₀ := s) (c := .compStart (gExp elt t1 i1 t2 i2 scope pos) 0 (.ref it) .none cenv) (fs := []) (s := s) (c' := c0 elt t1 i1 t2 i2 scope pos it cenv) rfl (loop s)
  split
  · exact again
  · refine seg_bind_wrap (wpAny_rule ?_)
    show Seg _ A2 _ _ _ s _ ((standAt i1.pos >>= _).wrap _ _ _ _) [] s
    exact seg_bind_wrap (wpAny_standAt (seg_bind_wrap (T.self _ 0 s _ _ st again)))

theorem over_fr2 {A2 : Around} {elt t1 i1 t2 i2 : Expr} {scope : Scope} {pos : Pos} {it : Addr} {cenv : Env} {l : List Env} (h : A2.frames = some l) : (A2.over (c0 elt t1 i1 t2 i2 scope pos it cenv) []).frames = some (cenv :: l) := by
  show (A2.frames).map ([cenv] ++ ·) = _
  rw [h]
  rfl
theorem over_room2 {A2 : Around} {elt t1 i1 t2 i2 : Expr} {scope : Scope} {pos : Pos} {it : Addr} {cenv : Env} {k : Nat} (h : A2.handled = none) (hd : A2.depth + 1 + 3 * k + 5 < recursionLimit) (hu : A2.units + 3 + 16 * k + 200 < cLine) : Room k (A2.over (c0 elt t1 i1 t2 i2 scope pos it cenv) []) :=
  ⟨h, hd, hu⟩

structure GenOk2 (N : List Str) (sc scope : Scope) (x x2 : Str) : Prop where
  one : GenOk N sc scope x
  loc2 : scope.names.lookup x2 = some .local
  ne : x ≠ x2
theorem genOk2_by {N : List Str} {sc scope : Scope} {x x2 : Str} (h : (genC N sc scope x && decide (scope.names.lookup x2 = some NameKind.local) && decide (x ≠ x2)) = true) : GenOk2 N sc scope x x2 := by
  simp only [Bool.and_eq_true, decide_eq_true_eq] at h
  exact ⟨genOk_by h.1.1, h.1.2, h.2⟩
section
variable {X : Cx}
/-- any(elt for t1 in i1 for t2 in i2) (sb: true), all(..) (sb: false) -/
def tGen2 (sb : Bool) (P : Addr) (wi : TI) (gt gt2 : TG) (wi2 : TI) (te : TE) : TE := fun σ H Q => wi σ H fun J H1 => GxR.TabG H1 P ∧ ∀ H2, GxR.Tabbed P H1 H2 → ∃ W : Nat → Nat → Hp → Prop, (∃ m, W 0 m H2) ∧ ∀ Y : Cx, Nest Y Y σ gt gt2 wi2 te sb J (fun H' => Q (.bl (!sb)) H') (fun H' => Q (.bl sb) H') W
theorem waits_next2 {pins : List (Addr × Obj)} {σ : L2.St} {H : Hp} {z : Shared} {x x2 : Str} {cenv : Env} {fp : List Addr} {A0 A' : Around} {a : Addr} {oa : Obj} {g : Nat} {sb : Bool} {Qe Qs : Hp → Prop} {Qf : Option Value → Shared → Prop} {E : Value → Shared → Prop} {n : Nat} {s : Shared}
    (hh : A0.handled = none) (hd : A0.depth < recursionLimit) (I : Inv X pins σ H z) (hfp : ∀ b ∈ fp, FpOk X pins H b) (ha : ∃ nm qn, oa.cls = .type "generator" ∧ oa.data = .fields #[.int g 0, nm, qn] ∧ oa.slots = #[])
    (hz : Waits (model X.prog X.w) A0.in1 (GEnd (genX2 X x x2 z H cenv fp A') (a, oa) Qe) (GYld (genX2 X x x2 z H cenv fp A') (a, oa) g sb Qs) a g n s)
    (hE : ∀ s1 H1, Inv X pins σ H1 s1 → Qe H1 → Qf none s1)
    (hS : ∀ b s1 H1, b = sb → Inv X pins σ H1 s1 → Qs H1 → Qf (some (.bool b)) s1)
    (hN : ∀ b s1 m, b ≠ sb → m < n → Waits (model X.prog X.w) A0.in1 (GEnd (genX2 X x x2 z H cenv fp A') (a, oa) Qe) (GYld (genX2 X x x2 z H cenv fp A') (a, oa) g sb Qs) a g m s1 → Qf (some (.bool b)) s1) :
    wpAny (model X.prog X.w) A0 (pyNext (.ref a)) Qf E s := by
  obtain ⟨hg, hl, gs, hgs, go⟩ := hz
  refine wpAny_pyNext_genexpQ (P := fun _ _ s1 => ∃ σ' H', Inv (genX2 X x x2 z H cenv fp A') [(a, oa)] σ' H' s1 ∧ Qe H') hh hl hd hg hgs go (fun v s1 gs' hb hy => ?_) (fun s1 hp h' hk => ?_)
  · obtain ⟨b, σ', H', rfl, hlt, J, q⟩ := hy
    have out : Inv X pins σ H' (s1.setGen g gs') := gen_out2 (h' := s1.heap) (t' := s1.toks) I hfp J (bare_set J.bare hb) fun _ _ e => e
    by_cases hbs : b = sb
    · rw [if_pos hbs] at q
      exact hS b _ H' hbs out q
    · rw [if_neg hbs] at q
      cases n with
      | zero => exact (q s1 rfl rfl hlt J.bare).elim
      | succ m =>
        refine hN b _ m hbs (Nat.lt_succ_self m) ⟨?_, out.nolimit, gs', set_at hlt, q _ rfl rfl ?_ (bare_set (bare_set J.bare hb) rfl)⟩
        · obtain ⟨nm, qn, h1, h2, h3⟩ := ha
          exact ⟨oa, nm, qn, (J.pin (a, oa) (by simp)).1, h1, h2, h3⟩
        · simp only [Shared.setGen, Array.size_setIfInBounds]
          exact hlt
  · obtain ⟨σ', H', J, q⟩ := hp
    have out : Inv X pins σ H' { s1 with heap := h', gens := s1.gens.setIfInBounds g .finished, toks := s1.toks } := gen_out2 I hfp J (bare_set J.bare rfl) hk
    exact hE _ H' out q

/-- the generator is made -/
theorem gen_made2 {c P : Addr} {elt t1 i1 t2 i2 : Expr} {x x2 : Str} {gpos : Pos} {scope : Scope} {wi wi2 : TI} {gt gt2 : TG} {te : TE} {k : Nat} {sb : Bool} {pins : List (Addr × Obj)} {σ : L2.St} {H : Hp} {s : Shared} {Q : VK} {Q' : Value → Shared → Prop}
    (hr : Room (k + 1) X.A) (TB : GxR.TabB X.base X.mg c P) (hcode : X.env.code = .ref c) (ok2 : GenOk2 X.N X.env.scope scope x x2) (hi : PI X t1 i1 wi)
    (hg : ∀ (z : Shared) (H : Hp) (code : Value) (C : Addr) (fp : List Addr) (A' : Around), PG (genX2 X x x2 z H (gEnv X scope code C) fp A') t1 gt)
    (hg2 : ∀ (z : Shared) (H : Hp) (code : Value) (C : Addr) (fp : List Addr) (A' : Around), PG (genX2 X x x2 z H (gEnv X scope code C) fp A') t2 gt2)
    (hi2 : ∀ (z : Shared) (H : Hp) (code : Value) (C : Addr) (fp : List Addr) (A' : Around), Room k A' → PI (genX2 X x x2 z H (gEnv X scope code C) fp A') t2 i2 wi2) (hs2 : ∀ env v, foldedSetIterable i2 env v = pure v)
    (he : ∀ (z : Shared) (H : Hp) (code : Value) (C : Addr) (fp : List Addr) (A' : Around), Room k A' → PE (genX2 X x x2 z H (gEnv X scope code C) fp A') elt te)
    (hs : ∀ v, genFold i1 X.env v = pure v) (I : Inv X pins σ H s) (h : tGen2 sb P wi gt gt2 wi2 te σ H Q)
    (hQ : ∀ (a : Addr) (g n : Nat) (s6 z : Shared) (H4 : Hp) (cenv : Env) (fp : List Addr) (A' : Around) (oa : Obj), Inv X pins σ H4 z → (∀ b ∈ fp, FpOk X pins H4 b) → (∃ nm qn, oa.cls = .type "generator" ∧ oa.data = .fields #[.int g 0, nm, qn] ∧ oa.slots = #[]) →
      Waits (model X.prog X.w) X.A.in1.in1 (GEnd (genX2 X x x2 z H4 cenv fp A') (a, oa) (fun H' => Q (.bl (!sb)) H')) (GYld (genX2 X x x2 z H4 cenv fp A') (a, oa) g sb (fun H' => Q (.bl sb) H')) a g n s6 → Q' (.ref a) s6) :
    wpAny (model X.prog X.w) X.A (eval (gExp elt t1 i1 t2 i2 scope gpos) X.env) Q' X.xe s := by
  have ok := ok2.one
  have hfree : ∀ y ∈ scope.names, y.2 = .free → ∃ c, X.env.cells.lookup y.1 = some c := fun y hy e => (ok.free y hy e).elim (fun k => I.ok.has _ (.inl k)) fun k => I.ok.has _ (.inr k)
  refine make2 ok.co (closure_ok hfree) ok.cell ok.dot ok.kind (by have := hr.dp; omega) ?_ hs
  refine thn (hi.run pins s σ H _ I h) fun xv s1 h1 => thn h1 fun itv s2 h2 => ?_
  obtain ⟨it, fp, tn, J, H2, rfl, I2, T, st2, f2, ⟨ps, hP, ht⟩, q⟩ := h2
  refine ⟨I2.nolimit, ?_⟩
  have hPs : s2.heap.get? P = some { cls := .none, data := .fields ps } := I2.hok P _ hP
  have hcd : PySem.W.CodeHd s2.heap c P := TB.code.keeps I2.bk
  have nP : ∀ b ∈ fp, b ≠ P := fun b hb e => by
    have := (f2 b hb).1
    rw [e, hP] at this
    cases this
  have cont : ∀ (code : Value) (h3 : Heap) (tk : Nat) (more : Array Value), Heap.ExtBut P s2.heap h3 → h3.get? P = some { cls := .none, data := .fields (ps ++ more) } → TriplesOk (ps ++ more).toList →
      wpAny (model X.prog X.w) X.A (builtinsFor X.env.globals X.env.builtins) (fun bi s₄ =>
        ∀ h', h'.Ns s₄.heap.objs.size (fun y => if y = ".0" then some (.ref it) else none) → Heap.SameBut s₄.heap.objs.size (s₄.heap.push { cls := .type "frame", data := .dict #[] }) h' →
          Q' (.ref h'.objs.size) { s₄ with
            gens := s₄.gens.push (.fresh (.compStart (gExp elt t1 i1 t2 i2 scope gpos) 0 (.ref it) .none (genEnv scope (cloFrom X.env.cells scope.names []) s₄.heap.objs.size code bi X.env))),
            toks := s₄.toks + 1 + 1 + 1,
            heap := h'.push { cls := .type "generator", data := .fields #[.int s₄.gens.size 0, .str "<genexpr>" (s₄.toks + 1), .str (X.env.qual ++ "<genexpr>") (s₄.toks + 1 + 1)] } }) X.xe { s2 with heap := h3, toks := tk } := by
    intro code h3 tk more hx hP3 ht3
    have I3 : Inv X pins σ (upd H2 P (.tbl (ps ++ more))) { s2 with heap := h3, toks := tk } := GxR.inv_tab (g' := s2.gens) (d' := s2.drawn) I2 hP (fun b o hb e => hx b o hb e) hP3 I2.bare
    have tabbed : GxR.Tabbed P H2 (upd H2 P (.tbl (ps ++ more))) := ⟨⟨_, upd_same, ht3⟩, fun b hb => upd_ne hb⟩
    obtain ⟨bm, ob, e1, e2, e3, e4, e5, e6, e7, e8⟩ := TB.bm
    refine wpAny_builtinsFor (m := X.mg) (by rw [I.ok.glob]; exact I.mod.glob.keeps I3.bk) e1 e2 (I3.bk _ _ e5) e6 e7 e8 ?_
    intro h' hn' hs'
    obtain ⟨z, hz⟩ : ∃ z, z = ({ s2 with heap := h3, toks := tk } : Shared) := ⟨_, rfl⟩
    rw [← hz] at I3
    have zh : z.heap = h3 := by rw [hz]
    have hn' : h'.Ns h3.objs.size (fun y => if y = ".0" then some (.ref it) else none) := hn'
    have hs' : Heap.SameBut h3.objs.size (h3.push { cls := .type "frame", data := .dict #[] }) h' := hs'
    have sz' : h'.objs.size = h3.objs.size + 1 := by rw [hs'.1, Heap.size_push]
    have kp' : ∀ b o, h3.get? b = some o → h'.get? b = some o := fun b o e => hs'.extBut b o (Nat.ne_of_lt (Heap.lt_size e)) (Heap.get?_push_of_some _ e)
    have st3 : tn 0 h3 := T.keep _ _ _ st2 fun b hb o e => hx b o (nP b hb) e
    have f3 : ∀ b ∈ fp, FpOk X pins (upd H2 P (.tbl (ps ++ more))) b ∧ b < z.heap.objs.size := fun b hb => by
      obtain ⟨o, e, _⟩ := T.obj _ _ st3 b hb
      refine ⟨⟨?_, (f2 b hb).2⟩, by rw [zh]; exact Heap.lt_size e⟩
      rw [upd_ne (nP b hb)]
      exact (f2 b hb).1
    obtain ⟨W, ⟨m0, w0⟩, turn⟩ := q _ tabbed
    generalize upd H2 P (.tbl (ps ++ more)) = H3 at I3 f3 w0 turn
    -- the generator's own object
    refine hQ h'.objs.size s2.gens.size (m0 + 1) _ z H3 (gEnv X scope code h3.objs.size) fp (X.A.in1.in1.over (c0 elt t1 i1 t2 i2 scope gpos it (gEnv X scope code h3.objs.size)) [])
      { cls := .type "generator", data := .fields #[.int s2.gens.size 0, .str "<genexpr>" (tk + 1), .str (X.env.qual ++ "<genexpr>") (tk + 1 + 1)] } I3 (fun b hb => (f3 b hb).1) ⟨_, _, rfl, rfl, rfl⟩ ?_
    refine ⟨⟨_, _, _, Heap.get?_push_size _ rfl, rfl, rfl, rfl⟩, ?_, _, Array.getElem?_push_size .., gen_first2 T (T.keep _ _ _ st3 fun b hb o e => Heap.get?_push_of_some _ (kp' b o e)) fun s₀ => ?_⟩
    · exact I3.nolimit.keeps fun b o e => Heap.get?_push_of_some _ (kp' b o (by rw [← zh]; exact e))
    have hLs : h3.objs.size = z.heap.objs.size := by rw [zh]
    have room : Room k (X.A.in1.in1.over (c0 elt t1 i1 t2 i2 scope gpos it (gEnv X scope code h3.objs.size)) []) := over_room2 hr.hd (by have := hr.dp; show X.A.depth + 1 + 3 * k + 5 < _; omega) (by have := hr.un; show X.A.units + 1 + 1 + 3 + 16 * k + 200 < _; omega)
    have I4 := gen_start2 (x := x) (x2 := x2) (scope := scope) (code := code) (fp := fp) (A' := X.A.in1.in1.over (c0 elt t1 i1 t2 i2 scope gpos it (gEnv X scope code z.heap.objs.size)) []) (g' := (s2.gens.push (.fresh (.compStart (gExp elt t1 i1 t2 i2 scope gpos) 0 (.ref it) .none (gEnv X scope code h3.objs.size)))).setIfInBounds s2.gens.size .running)
      (t' := tk + 1 + 1 + 1) (h5 := h'.push { cls := .type "generator", data := .fields #[.int s2.gens.size 0, .str "<genexpr>" (tk + 1), .str (X.env.qual ++ "<genexpr>") (tk + 1 + 1)] })
      I3 ok f3 hr.hd (over_fr2 I.ok.frames) (fun b o e => Heap.get?_push_of_some _ (kp' b o (by rw [← zh]; exact e))) (by rw [← hLs]; exact hn'.push _) (bare_set (I2.bare.push rfl) rfl)
    rw [← hLs] at I4
    have nofr : h'.objs.size ∉ (genX2 X x x2 z H3 (gEnv X scope code h3.objs.size) fp (X.A.in1.in1.over (c0 elt t1 i1 t2 i2 scope gpos it (gEnv X scope code h3.objs.size)) [])).fs := fun hb => by
      rcases List.mem_cons.mp (I3.stkSub _ hb) with e | hb
      · have := I3.lt
        rw [← e, zh, sz'] at this
        exact absurd (Nat.lt_trans (Nat.lt_succ_self _) this) (Nat.lt_irrefl _)
      · exact I3.nofs (by rw [zh, sz']; exact Nat.le_succ _) hb
    have I5 := I4.pins_of (pins' := [(h'.objs.size, { cls := .type "generator", data := .fields #[.int s2.gens.size 0, .str "<genexpr>" (tk + 1), .str (X.env.qual ++ "<genexpr>") (tk + 1 + 1)] })]) fun p hp => by
      have e : p = _ := List.mem_singleton.mp hp
      subst e
      refine ⟨Heap.get?_push_size _ rfl, I3.hok.fresh (by rw [zh, sz']; exact Nat.le_succ _), ?_, nofr, fun v q => by cases q⟩
      show h'.objs.size ≠ h3.objs.size
      rw [sz']
      exact Nat.succ_ne_self _
    refine gen_seg2 (X := X) (z := z) (H := H3) ok.co T rfl (hg _ _ _ _ _ _) (hi2 _ _ _ _ _ _ room) (hs2 _) (hg2 _ _ _ _ _ _) (he _ _ _ _ _ _ room) (fun b hb => ?_) (turn X) m0 (m0 + 1) 0 s₀ _ none none H3 (Nat.lt_succ_self _) w0 (inv_same I5 rfl (by rw [hz]; rfl) I5.bare) (T.keep _ _ _ st3 fun b hb o e => Heap.get?_push_of_some _ (kp' b o e)) (fun b hb => (f3 b hb).1.1) ?_
    · have := (f3 b hb).2
      rw [zh] at this
      show h'.objs.size ≠ b
      rw [sz']
      intro e
      rw [← e] at this
      exact absurd (Nat.lt_trans (Nat.lt_succ_self _) this) (Nat.lt_irrefl _)
    · show s2.gens.size < (Array.setIfInBounds _ _ _).size
      rw [Array.size_setIfInBounds, Array.size_push]
      exact Nat.lt_succ_self _
  cases hf : codeAmong gpos ps.toList with
  | none =>
    refine wpAny_genexprCodeX hcode (hcd.code hPs ht) (hcd.tab hPs) hf fun c' h' tk hx hge hlt hco' _ htab' _ => ?_
    obtain ⟨o1, vs, f1, tf, fl, tg', inF, tx, tt, op, _, _, _, _, _, _, _, _, _, htr, _⟩ := hco'
    exact cont _ h' tk _ hx htab'.2 htr
  | some cv =>
    refine wpAny_genexprCode_hit hcode (hcd.code hPs ht) hf ?_
    exact cont cv s2.heap s2.toks #[] (Heap.ExtBut.refl _ _) (by rw [Array.append_empty]; exact hPs) (by rw [Array.append_empty]; exact ht)

/-- any(elt for tg in iter) -/
theorem pe_any2 {c P : Addr} {elt t1 i1 t2 i2 : Expr} {x x2 : Str} {p pos gpos : Pos} {scope : Scope} {wi wi2 : TI} {gt gt2 : TG} {te : TE} {k : Nat}
    (hr : Room (k + 1) X.A) (hgl : Gl X "any") (hm : X.mg "any" = none) (TB : GxR.TabB X.base X.mg c P) (hcode : X.env.code = .ref c) (ok : GenOk2 X.N X.env.scope scope x x2) (hi : PI X t1 i1 wi)
    (hg : ∀ (z : Shared) (H : Hp) (code : Value) (C : Addr) (fp : List Addr) (A' : Around), PG (genX2 X x x2 z H (gEnv X scope code C) fp A') t1 gt)
    (hg2 : ∀ (z : Shared) (H : Hp) (code : Value) (C : Addr) (fp : List Addr) (A' : Around), PG (genX2 X x x2 z H (gEnv X scope code C) fp A') t2 gt2)
    (hi2 : ∀ (z : Shared) (H : Hp) (code : Value) (C : Addr) (fp : List Addr) (A' : Around), Room k A' → PI (genX2 X x x2 z H (gEnv X scope code C) fp A') t2 i2 wi2)
    (he : ∀ (z : Shared) (H : Hp) (code : Value) (C : Addr) (fp : List Addr) (A' : Around), Room k A' → PE (genX2 X x x2 z H (gEnv X scope code C) fp A') elt te)
    (hs : ∀ v, genFold i1 X.env v = pure v := by intro _; rfl) (hs2 : ∀ env v, foldedSetIterable i2 env v = pure v := by intro _ _; rfl)
    (hst : starEach [gExp elt t1 i1 t2 i2 scope gpos] X.env = (false, eval (gExp elt t1 i1 t2 i2 scope gpos) X.env) :: starEach [] X.env := by rfl) :
    PE X (.Call (.Name "any" p) [gExp elt t1 i1 t2 i2 scope gpos] [] pos) (tGen2 true P wi gt gt2 wi2 te) := by
  refine ⟨fun pins s σ H Q I h => ?_⟩
  refine wpAny_Call_Name_kw (ld_blt I hgl hm PyProof.Rows.boot_any ?_)
  refine PyProof.Rows.callWith_builtin1 ?_ hst (by rfl)
  rw [hst]
  refine Calls.spliced_cons (gen_made2 hr TB hcode ok hi hg hg2 hi2 hs2 he hs I h fun a g n s6 z H4 cenv fp A' oa I4 hfp ha hz => Calls.spliced_nil ?_)
  refine call_function_tree F.kind_any F.plain_any F.entry_any (F.args_any1 _) ?_
  unfold Builtin.«any»
  refine wpAny_bind (m := oneArg "any" _) (wpAny_pure (wpAny_bind (wpAny_pyIter_gen hz.1 ?_)))
  refine wpAny_pure ⟨plainId_quiet F.plain_any_loop _, any_turns _ (fun n s hz => ?_) n s6 hz⟩
  refine waits_next2 (A0 := X.A.in1) hr.hd (by have := hr.dp; show X.A.depth < _; omega) I4 hfp ha hz (fun s1 H1 J q => ?_) (fun b s1 H1 hb J q => ?_) fun b s1 m hb hm hw => ?_
  · exact ⟨.bl false, H1, J, rfl, q⟩
  · subst hb
    exact ⟨true, rfl, ⟨.bl true, H1, J, rfl, q⟩⟩
  · refine ⟨b, rfl, ?_⟩
    cases b with
    | true => exact absurd rfl hb
    | false => exact ⟨m, hm, hw⟩
/-- all(elt for tg in iter) -/
theorem pe_all2 {c P : Addr} {elt t1 i1 t2 i2 : Expr} {x x2 : Str} {p pos gpos : Pos} {scope : Scope} {wi wi2 : TI} {gt gt2 : TG} {te : TE} {k : Nat}
    (hr : Room (k + 1) X.A) (hgl : Gl X "all") (hm : X.mg "all" = none) (TB : GxR.TabB X.base X.mg c P) (hcode : X.env.code = .ref c) (ok : GenOk2 X.N X.env.scope scope x x2) (hi : PI X t1 i1 wi)
    (hg : ∀ (z : Shared) (H : Hp) (code : Value) (C : Addr) (fp : List Addr) (A' : Around), PG (genX2 X x x2 z H (gEnv X scope code C) fp A') t1 gt)
    (hg2 : ∀ (z : Shared) (H : Hp) (code : Value) (C : Addr) (fp : List Addr) (A' : Around), PG (genX2 X x x2 z H (gEnv X scope code C) fp A') t2 gt2)
    (hi2 : ∀ (z : Shared) (H : Hp) (code : Value) (C : Addr) (fp : List Addr) (A' : Around), Room k A' → PI (genX2 X x x2 z H (gEnv X scope code C) fp A') t2 i2 wi2)
    (he : ∀ (z : Shared) (H : Hp) (code : Value) (C : Addr) (fp : List Addr) (A' : Around), Room k A' → PE (genX2 X x x2 z H (gEnv X scope code C) fp A') elt te)
    (hs : ∀ v, genFold i1 X.env v = pure v := by intro _; rfl) (hs2 : ∀ env v, foldedSetIterable i2 env v = pure v := by intro _ _; rfl)
    (hst : starEach [gExp elt t1 i1 t2 i2 scope gpos] X.env = (false, eval (gExp elt t1 i1 t2 i2 scope gpos) X.env) :: starEach [] X.env := by rfl) :
    PE X (.Call (.Name "all" p) [gExp elt t1 i1 t2 i2 scope gpos] [] pos) (tGen2 false P wi gt gt2 wi2 te) := by
  refine ⟨fun pins s σ H Q I h => ?_⟩
  refine wpAny_Call_Name_kw (ld_blt I hgl hm PyProof.Rows.boot_all ?_)
  refine PyProof.Rows.callWith_builtin1 ?_ hst (by rfl)
  rw [hst]
  refine Calls.spliced_cons (gen_made2 hr TB hcode ok hi hg hg2 hi2 hs2 he hs I h fun a g n s6 z H4 cenv fp A' oa I4 hfp ha hz => Calls.spliced_nil ?_)
  refine call_function_tree F.kind_all F.plain_all F.entry_all (F.args_all1 _) ?_
  unfold Builtin.«all»
  refine wpAny_bind (m := oneArg "all" _) (wpAny_pure (wpAny_bind (wpAny_pyIter_gen hz.1 ?_)))
  refine wpAny_pure ⟨plainId_quiet F.plain_all_loop _, all_turns _ (fun n s hz => ?_) n s6 hz⟩
  refine waits_next2 (A0 := X.A.in1) hr.hd (by have := hr.dp; show X.A.depth < _; omega) I4 hfp ha hz (fun s1 H1 J q => ?_) (fun b s1 H1 hb J q => ?_) fun b s1 m hb hm hw => ?_
  · exact ⟨.bl true, H1, J, rfl, q⟩
  · subst hb
    exact ⟨false, rfl, ⟨.bl false, H1, J, rfl, q⟩⟩
  · refine ⟨b, rfl, ?_⟩
    cases b with
    | false => exact absurd rfl hb
    | true => exact ⟨m, hm, hw⟩
end
end GX

set_option Elab.async false
set_option linter.all false
set_option maxRecDepth 100000
set_option maxHeartbeats 2000000
/-! DL35: any, all over two fors, told by data. -/
namespace DL
open PySem PySem.Spec L2
structure semI (Y : Cx) (tg iter : Expr) (σ : L2.St) (H : Hp) (R : It → Hp → Prop) : Prop where
  run : ∀ pins s, Inv Y pins σ H s → wpAny (model Y.prog Y.w) Y.A (eval iter Y.env) (fun v s1 => wpAny (model Y.prog Y.w) Y.A (pyIter v) (PIE Y pins σ tg R) Y.xe s1) Y.xe s
section
variable {X : Cx} {Tb : List Addr} {δ : Dl} {elt i1 i2 : Expr} {p pos : Pos}
theorem AtO.front0 {G : Glo} {B : Hp} {O0 M O : List Addr} {Lk : Lks} {σ : L2.St} {τ : List (V × D)} {H : Hp} (I : AtO G B O0 M Lk O δ σ τ H) (u : Option V) : AtO G B O0 M Lk O (none :: δ) (u :: σ) τ H := by
  refine ⟨I.sub0, I.subM, I.o0, I.new, I.live, I.gr, fun p hp => ⟨(I.hid p hp).1, (I.hid p hp).2.1, (I.hid p hp).2.2.1, fun i o e => ?_⟩, I.hidT, I.feeds, I.tabs, I.tmp, by rw [List.length_cons, List.length_cons, I.len], fun i sl e => ?_, fun i k o o' q e1 e2 e3 e4 => ?_, I.lck, I.nof, I.inn.map (fun i => i - 1) (fun i j o o' e1 e2 z => by
    cases i with
    | zero => cases e1
    | succ i =>
      cases j with
      | zero => cases e2
      | succ j => rw [show i = j from z]) (fun i o e => by
    cases i with
    | zero => cases e
    | succ i => exact ⟨o, e, rfl, rfl⟩)⟩
  · cases i with
    | zero => cases e
    | succ i => exact (I.hid p hp).2.2.2 i o e
  · cases i with
    | zero => cases e
    | succ i => exact I.slots i sl e
  · cases i with
    | zero => cases e1
    | succ i =>
      cases k with
      | zero => cases e2
      | succ k => rw [I.sep i k o o' q e1 e2 e3 e4]
abbrev gX2 (X : Cx) (x x2 : Str) (scope : Scope) (z : Shared) (H : Hp) (code : Value) (C : Addr) (fp : List Addr) (A' : Around) : Cx := GX.genX2 X x x2 z H (GX.gEnv X scope code C) fp A'
/-- what is to be shown of any (sb: true), all (sb: false) over the items ds and what stands in each -/
def AnyAll2 (X : Cx) (Tb : List Addr) (k : Nat) (x x2 : Str) (px2 : Pos) (scope : Scope) (elt i2 : Expr) (δ : Dl) (sb : Bool) (P : D → Prop) (ds : List D) : Prop := ∃ (L : Nat → Nat) (Iv : Nat → Prop), Iv 0 ∧
  (∀ i d, ds[i]? = some d → Iv i → ∀ z H code C fp A', Room k A' → wpI (gX2 X x x2 scope z H code C fp A') Tb (.Name x2 px2) i2 (some (.d d) :: none :: δ) fun es => es.length = L i ∧ ∃ Jv : Nat → Prop, Jv 0 ∧
    (∀ j e, es[j]? = some e → Jv j → ∀ z H code C fp A', Room k A' → wpE (gX2 X x x2 scope z H code C fp A') Tb elt (some (.d d) :: some (.d e) :: δ) fun y => ∃ b, y = .bool b ∧ if b = sb then P (.bool sb) else Jv (j + 1)) ∧ (Jv es.length → Iv (i + 1))) ∧ (Iv ds.length → P (.bool (!sb)))
def meas (L : Nat → Nat) (n i : Nat) : Nat := ((List.range' i (n - i)).map fun j => L j + 2).sum
theorem meas_step {L : Nat → Nat} {n i : Nat} (h : i < n) : meas L n i = L i + 2 + meas L n (i + 1) := by
  unfold meas
  rw [show n - i = (n - (i + 1)) + 1 by omega, List.range'_succ, List.map_cons, List.sum_cons]
theorem tgen2_of {x x2 : Str} {px2 : Pos} {scope : Scope} {P : D → Prop} {k : Nat} {sb : Bool} {Pt : Addr} {wi : TI} (hP : Pt ∈ Tb)
    (hw : ∀ B O0 M Lk σ τ H, At (GX X Tb) B O0 M Lk δ σ τ H → ∀ R : It → Hp → Prop, (∀ J ds κ H', At (GX X Tb) B O0 M Lk δ σ (κ ++ τ) H' → IterJ (GX X Tb) J ds κ → AnyAll2 X Tb k x x2 px2 scope elt i2 δ sb P ds → R J H') → wi σ H R)
    {B : Hp} {O0 M : List Addr} {Lk : Lks} {σ : L2.St} {τ : List (V × D)} {H : Hp} (I : At (GX X Tb) B O0 M Lk δ σ τ H) {Q : VK} (q : ∀ v d H', At (GX X Tb) B O0 M Lk δ σ ((v, d) :: τ) H' → P d → Q v H') :
    GX.tGen2 sb Pt wi (gName 0) (gName 1) (fun σ H' R => ∀ z H code C fp A', Room k A' → semI (gX2 X x x2 scope z H code C fp A') (.Name x2 px2) i2 σ H' R) (fun σ H' Q => ∀ z H code C fp A', Room k A' → semE (gX2 X x x2 scope z H code C fp A') elt σ H' Q) σ H Q := by
  refine hw B O0 M Lk σ τ H I _ fun J ds κ H1 I1 it ⟨L, Iv, h0, hstep, hend⟩ => ?_
  obtain ⟨O, I1⟩ := I1
  have hT := I1.tabs Pt hP
  refine ⟨hT, fun H2 ht => ⟨fun i m H => m = meas L ds.length i ∧ i ≤ ds.length ∧ At (GX X Tb) B O0 M Lk δ σ (κ ++ τ) H ∧ Iv i, ⟨_, rfl, Nat.zero_le _, At.grow0 ⟨O, I1⟩ (tabbed_gr hT ht) (tabbed_nf hT ht), h0⟩, fun Y i m H3 ⟨em, hi, ⟨O3, I3⟩, hv⟩ => ?_⟩⟩
  have itv := it B O0 M Lk O3 δ σ (κ ++ τ) H3 I3 (fun p hp => List.mem_append.mpr (.inl hp)) i
  by_cases hlt : i < ds.length
  · obtain ⟨go, yl⟩ := itv.1 hlt
    refine .inr ⟨go, fun y H4 hy o1 o2 => ⟨some y, rfl, fun z H code C fp A' hr => ?_⟩⟩
    obtain ⟨d, hd, I4⟩ := yl y H4 hy
    obtain ⟨_, rv⟩ := I4.pop1
    obtain ⟨wi2, hPI, hrd⟩ := hstep i d hd hv z H code C fp A' hr
    refine ⟨fun pins s Is => hPI.run pins s _ H4 _ Is (hrd B O0 M Lk (some y :: o2 :: σ) ((y, d) :: (κ ++ τ)) H4 ⟨O3, (I4.front0 o2).front rv⟩ _ fun J2 es κ2 H5 I5 it2 hes => ?_)⟩
    obtain ⟨hL, Jv, j0, jstep, jend⟩ := hes
    obtain ⟨O5, I5⟩ := I5
    have I5b : AtO (GX X Tb) B O0 M Lk O5 δ σ (κ2 ++ ((y, d) :: (κ ++ τ))) H5 := I5.back.back
    have ms := meas_step (L := L) hlt
    refine ⟨fun k m2 H => m2 = (L i - k) + 1 + meas L ds.length (i + 1) ∧ k ≤ es.length ∧ At (GX X Tb) B O0 M Lk δ σ (κ2 ++ ((y, d) :: (κ ++ τ))) H ∧ Jv k, ⟨_, by omega, rfl, Nat.zero_le _, ⟨O5, I5b⟩, j0⟩, fun k m2 H6 _ ⟨em2, hk, ⟨O6, I6⟩, hj⟩ => ?_⟩
    have itv2 := it2 B O0 M Lk O6 δ σ (κ2 ++ ((y, d) :: (κ ++ τ))) H6 I6 (fun p hp => List.mem_append.mpr (.inl hp)) k
    by_cases hlt2 : k < es.length
    · obtain ⟨go2, yl2⟩ := itv2.1 hlt2
      refine .inr ⟨go2, fun y2 H7 hy2 b2 => ⟨some y2, rfl, fun z H code C fp A' hr => ?_⟩⟩
      obtain ⟨e, he, I7⟩ := yl2 y2 H7 hy2
      obtain ⟨I8, re⟩ := I7.pop1
      have rd : Rp (vis O6 H7) y d := I8.tmp (y, d) (List.mem_append.mpr (.inr List.mem_cons_self))
      refine jstep k e he hj z H code C fp A' hr B O0 M Lk (some y :: some y2 :: σ) (κ2 ++ ((y, d) :: (κ ++ τ))) H7 ⟨O6, (I8.front re).front rd⟩ _ fun v dv H8 I9 h9 => ?_
      obtain ⟨b, rfl, h9⟩ := h9
      obtain ⟨O9, I9⟩ := I9
      obtain ⟨I10, rb⟩ := I9.pop1
      cases rb
      refine ⟨b, rfl, ?_⟩
      by_cases hb : b = sb
      · rw [if_pos hb] at h9 ⊢
        exact q _ _ H8 ⟨O9, (I10.back.back.drops (τ' := τ) fun p hp => List.mem_append.mpr (.inr (List.mem_cons_of_mem _ (List.mem_append.mpr (.inr hp))))).push (.bl sb)⟩ h9
      · rw [if_neg hb] at h9 ⊢
        exact ⟨_, by omega, rfl, hlt2, ⟨O9, I10.back.back⟩, h9⟩
    · have e : k = es.length := by omega
      subst e
      exact .inl ⟨itv2.2 (Nat.le_refl _), _, by omega, rfl, hlt, ⟨O6, I6.drops fun p hp => List.mem_append.mpr (.inr (List.mem_cons_of_mem _ hp))⟩, jend hj⟩
  · have e : i = ds.length := by omega
    subst e
    exact .inl ⟨itv.2 (Nat.le_refl _), q _ _ H3 ⟨O3, (I3.drops (τ' := τ) fun p hp => List.mem_append.mpr (.inr hp)).push (.bl _)⟩ (hend hv)⟩
theorem wpE_any2 {x x2 : Str} {px px2 gpos : Pos} {scope : Scope} {P : D → Prop} {k : Nat} {c Pt : Addr} (hr : Room (k + 1) X.A) (hm : X.mg "any" = none) (TB : GxR.TabB X.base X.mg c Pt) (hP : Pt ∈ Tb) (hcode : X.env.code = .ref c) (hN : X.N.Nodup) (ok : GX.GenOk2 X.N X.env.scope scope x x2)
    (h : wpI X Tb (.Name x px) i1 δ (AnyAll2 X Tb k x x2 px2 scope elt i2 δ true P)) (hgl : Gl X "any" := by rfl) (hs : ∀ v, genFold i1 X.env v = pure v := by intro _; rfl) (hs2 : ∀ env v, foldedSetIterable i2 env v = pure v := by intro _ _; rfl)
    (hst : starEach [GX.gExp elt (.Name x px) i1 (.Name x2 px2) i2 scope gpos] X.env = (false, eval (GX.gExp elt (.Name x px) i1 (.Name x2 px2) i2 scope gpos) X.env) :: starEach [] X.env := by rfl) :
    wpE X Tb (.Call (.Name "any" p) [GX.gExp elt (.Name x px) i1 (.Name x2 px2) i2 scope gpos] [] pos) δ P := fun B O0 M Lk σ τ H I Q q => by
  obtain ⟨wi, hi, hw⟩ := h
  have hx : x ∉ X.N := ok.one.own _ (PySem.mem_of_lookup ok.one.loc) rfl
  have hx2 : x2 ∉ X.N := ok.one.own _ (PySem.mem_of_lookup ok.loc2) rfl
  have nd : (x :: x2 :: X.N).Nodup := List.nodup_cons.mpr ⟨fun z => (List.mem_cons.mp z).elim ok.ne hx, List.nodup_cons.mpr ⟨hx2, hN⟩⟩
  exact sem_e (GX.pe_any2 hr hgl hm TB hcode ok hi (fun z H code C fp A' => pg_name nd rfl (.inl ok.one.loc) (.inr ok.one.loc)) (fun z H code C fp A' => pg_name (i := 1) nd rfl (.inl ok.loc2) (.inr ok.loc2)) (fun z H code C fp A' hr' => ⟨fun pins s σ H' R I h => (h z H code C fp A' hr').run pins s I⟩) (fun z H code C fp A' hr' => ⟨fun pins s σ H' Q I h => (h z H code C fp A' hr').run pins s I⟩) hs hs2 hst) (tgen2_of hP hw I q)
theorem wpE_all2 {x x2 : Str} {px px2 gpos : Pos} {scope : Scope} {P : D → Prop} {k : Nat} {c Pt : Addr} (hr : Room (k + 1) X.A) (hm : X.mg "all" = none) (TB : GxR.TabB X.base X.mg c Pt) (hP : Pt ∈ Tb) (hcode : X.env.code = .ref c) (hN : X.N.Nodup) (ok : GX.GenOk2 X.N X.env.scope scope x x2)
    (h : wpI X Tb (.Name x px) i1 δ (AnyAll2 X Tb k x x2 px2 scope elt i2 δ false P)) (hgl : Gl X "all" := by rfl) (hs : ∀ v, genFold i1 X.env v = pure v := by intro _; rfl) (hs2 : ∀ env v, foldedSetIterable i2 env v = pure v := by intro _ _; rfl)
    (hst : starEach [GX.gExp elt (.Name x px) i1 (.Name x2 px2) i2 scope gpos] X.env = (false, eval (GX.gExp elt (.Name x px) i1 (.Name x2 px2) i2 scope gpos) X.env) :: starEach [] X.env := by rfl) :
    wpE X Tb (.Call (.Name "all" p) [GX.gExp elt (.Name x px) i1 (.Name x2 px2) i2 scope gpos] [] pos) δ P := fun B O0 M Lk σ τ H I Q q => by
  obtain ⟨wi, hi, hw⟩ := h
  have hx : x ∉ X.N := ok.one.own _ (PySem.mem_of_lookup ok.one.loc) rfl
  have hx2 : x2 ∉ X.N := ok.one.own _ (PySem.mem_of_lookup ok.loc2) rfl
  have nd : (x :: x2 :: X.N).Nodup := List.nodup_cons.mpr ⟨fun z => (List.mem_cons.mp z).elim ok.ne hx, List.nodup_cons.mpr ⟨hx2, hN⟩⟩
  exact sem_e (GX.pe_all2 hr hgl hm TB hcode ok hi (fun z H code C fp A' => pg_name nd rfl (.inl ok.one.loc) (.inr ok.one.loc)) (fun z H code C fp A' => pg_name (i := 1) nd rfl (.inl ok.loc2) (.inr ok.loc2)) (fun z H code C fp A' hr' => ⟨fun pins s σ H' R I h => (h z H code C fp A' hr').run pins s I⟩) (fun z H code C fp A' hr' => ⟨fun pins s σ H' Q I h => (h z H code C fp A' hr').run pins s I⟩) hs hs2 hst) (tgen2_of hP hw I q)
end
end DL

set_option Elab.async false
set_option linter.all false
set_option maxRecDepth 100000
set_option maxHeartbeats 2000000
/-! TX0: texts: split, partition, str, int, f-strings, extend, the truth of a list. -/
namespace DL
open PySem PySem.Spec L2
section
variable {X : Cx} {Tb : List Addr} {δ : Dl} {a b c e o i : Expr} {es : List Expr} {pos pos' p apos : Pos} {P : D → Prop} {st : Stmt} {sts : List Stmt} {R R' : Rs}
theorem wpE_split (h : wpE X Tb o δ fun d1 => ∃ a : Str, d1 = .str a ∧ wpE X Tb e δ fun d2 => ∃ b : Str, d2 = .str b ∧ (b.length == 0) = false ∧ a.length + 2 ≤ sizeLine ∧ P (.list ((Txt.split a b).map .str)))
    (hs : starEach [e] X.env = [(false, eval e X.env)] := by rfl) (ha : attributeBase o "split" X.env (eval o X.env) = eval o X.env := by rfl) (hl : (apos.endLine == pos.line) = true := by rfl) : wpE X Tb (.Call (.Attribute o "split" apos) [e] [] pos) δ P := fun B O0 M Lk σ τ H I Q q =>
  sem_e (pe_split pe_sem pe_sem hs ha hl) (h B O0 M Lk σ τ H I _ fun v d1 H1 I1 h1 => by
    obtain ⟨a, rfl, h1⟩ := h1
    obtain ⟨O, K⟩ := id I1
    have ev : v = .str a := (K.tmp _ List.mem_cons_self).str'
    refine ⟨⟨a, ev⟩, h1 B O0 M Lk σ _ H1 I1 _ fun u d2 H2 I2 h2 => ?_⟩
    obtain ⟨b, rfl, hb, hz, h2⟩ := h2
    obtain ⟨O, J⟩ := I2
    obtain ⟨J0, _, ru⟩ := J.pop2
    exact ⟨a, b, ev, by have eu : u = .str b := ru.str'; rw [eu], hb, hz, fun p hp => q _ _ _ ⟨O, J0.newLst (rpStrs _) hp⟩ h2⟩)
theorem wpE_partition (h : wpE X Tb o δ fun d1 => ∃ a : Str, d1 = .str a ∧ wpE X Tb e δ fun d2 => ∃ b : Str, d2 = .str b ∧ (b.length == 0) = false ∧ a.length ≤ sizeLine ∧ P (.tuple [.str (Txt.partition a b).1, .str (Txt.partition a b).2.1, .str (Txt.partition a b).2.2]))
    (hs : starEach [e] X.env = [(false, eval e X.env)] := by rfl) (ha : attributeBase o "partition" X.env (eval o X.env) = eval o X.env := by rfl) (hl : (apos.endLine == pos.line) = true := by rfl) : wpE X Tb (.Call (.Attribute o "partition" apos) [e] [] pos) δ P := fun B O0 M Lk σ τ H I Q q =>
  sem_e (pe_partition pe_sem pe_sem hs ha hl) (h B O0 M Lk σ τ H I _ fun v d1 H1 I1 h1 => by
    obtain ⟨a, rfl, h1⟩ := h1
    obtain ⟨O, K⟩ := id I1
    have ev : v = .str a := (K.tmp _ List.mem_cons_self).str'
    refine ⟨⟨a, ev⟩, h1 B O0 M Lk σ _ H1 I1 _ fun u d2 H2 I2 h2 => ?_⟩
    obtain ⟨b, rfl, hb, hz, h2⟩ := h2
    obtain ⟨O, J⟩ := I2
    obtain ⟨J0, _, ru⟩ := J.pop2
    exact ⟨a, b, ev, by have eu : u = .str b := ru.str'; rw [eu], hb, hz, fun p hp => q _ _ _ ⟨O, J0.newTup (.cons (.str _) (.cons (.str _) (.cons (.str _) .nil))) hp⟩ h2⟩)
/-- int(text) -/
def intTR : List D → (D → Prop) → Prop
  | [.str a], P => ∃ n, PySem.intText? a = some n ∧ a.length ≤ 640 ∧ P (.int n)
  | _, _ => False
theorem ok_intT : OkC X Tb (fun xs H Q => ∃ a n, xs = [.str a] ∧ PySem.intText? a = some n ∧ a.length ≤ 640 ∧ Q (.int n) H) intTR := by
  intro B O0 M Lk O δ σ τ H vs ds P I r h Q q
  unfold intTR at h
  split at h
  · obtain ⟨v, rfl, rv⟩ := r.one'
    obtain ⟨n, h1, h2, h3⟩ := h
    exact ⟨_, n, by rw [rv.str'], h1, h2, q _ _ H ⟨O, I.push (.int n)⟩ h3⟩
  · exact h.elim
/-- str(int), str(text) -/
def strR : List D → (D → Prop) → Prop
  | [.int i], P => i.natAbs.log2 < 1920 ∧ P (.str (Str.ofString (toString i)))
  | [.str a], P => P (.str a)
  | _, _ => False
theorem call_strX : CallR X (.type "str") (fun xs H Q => (∃ i, xs = [.int i] ∧ i.natAbs.log2 < 1920 ∧ Q (.str (toString i)) H) ∨ ∃ a, xs = [.str a] ∧ Q (.str a) H) := CallR.or call_str_int SkE.call_str_str
theorem ok_str : OkC X Tb (fun xs H Q => (∃ i, xs = [.int i] ∧ i.natAbs.log2 < 1920 ∧ Q (.str (toString i)) H) ∨ ∃ a, xs = [.str a] ∧ Q (.str a) H) strR := by
  intro B O0 M Lk O δ σ τ H vs ds P I r h Q q
  unfold strR at h
  split at h
  · obtain ⟨v, rfl, rv⟩ := r.one'
    exact .inl ⟨_, by rw [rv.int'], h.1, q _ _ H ⟨O, I.push (.str _)⟩ h.2⟩
  · obtain ⟨v, rfl, rv⟩ := r.one'
    exact .inr ⟨_, by rw [rv.str'], q _ _ H ⟨O, I.push (.str _)⟩ h⟩
  · exact h.elim
theorem boot_str : bootBuiltins "str" = some (.type "str") := by decide +kernel
theorem boot_int : bootBuiltins "int" = some (.type "int") := by decide +kernel
/-- {e}, e a text or an int -/
def fmtR : D → (Str → Prop) → Prop
  | .int i, P => i.natAbs.log2 < 1920 ∧ P (Str.ofString (toString i))
  | .str y, P => y.length ≤ sizeLine ∧ P y
  | _, _ => False
theorem wpE_fmt (h : wpE X Tb e δ fun d => fmtR d fun y => P (.str y)) : wpE X Tb (.FormattedValue e (-1) none pos) δ P := fun B O0 M Lk σ τ H I Q q =>
  sem_e (pe_fmt pe_sem) (h B O0 M Lk σ τ H I _ fun v d H' J h1 => by
    obtain ⟨O, J⟩ := J
    obtain ⟨J0, r⟩ := J.pop1
    cases d with
    | int i => exact .inr ⟨i, r.int', h1.1, q _ _ H' ⟨O, J0.push (.str _)⟩ h1.2⟩
    | str y => exact .inl ⟨y, r.str', h1.1, q _ _ H' ⟨O, J0.push (.str _)⟩ h1.2⟩
    | _ => exact h1.elim)
/-- the parts of an f-string, one behind the other -/
def wpJ (X : Cx) (Tb : List Addr) : List Expr → Str → Dl → (D → Prop) → Prop
  | [], acc, _, P => P (.str acc)
  | e :: es, acc, δ, P => wpE X Tb e δ fun d => ∃ y : Str, d = .str y ∧ (acc ++ y).length ≤ sizeLine ∧ wpJ X Tb es (acc ++ y) δ P
theorem pj_sem : ∀ es : List Expr, PJ X es (es.map (semE X))
  | [] => .nil
  | _ :: es => .cons pe_sem (pj_sem es)
theorem js_of : ∀ {es : List Expr} {acc : Str} {B : Hp} {O0 M : List Addr} {Lk : Lks} {σ : L2.St} {τ : List (V × D)} {H : Hp} {Q : VK}, wpJ X Tb es acc δ P → At (GX X Tb) B O0 M Lk δ σ τ H →
    (∀ v d H', At (GX X Tb) B O0 M Lk δ σ ((v, d) :: τ) H' → P d → Q v H') → tJs (es.map (semE X)) acc σ H fun out H1 => Q (.str out) H1
  | [], acc, B, O0, M, Lk, σ, τ, H, Q, h, I, q => q _ _ H (I.pushS fun _ => .str acc) h
  | e :: es, acc, B, O0, M, Lk, σ, τ, H, Q, h, I, q => by
    refine h B O0 M Lk σ τ H I _ fun v d H' J h1 => ?_
    obtain ⟨y, rfl, hz, h1⟩ := h1
    obtain ⟨O, K⟩ := id J
    refine ⟨y, (K.tmp _ List.mem_cons_self).str', hz, ?_⟩
    exact js_of (es := es) h1 J.pop q
theorem wpE_joined {v1 v2 : Expr} {rest : List Expr} (h : wpJ X Tb (v1 :: v2 :: rest) Str.empty δ P) : wpE X Tb (.JoinedStr (v1 :: v2 :: rest) pos) δ P := fun B O0 M Lk σ τ H I Q q =>
  sem_e (pe_joined (pj_sem _)) (js_of h I q)
/-- xs.extend(e), the list the frame's own -/
theorem wpS_extend {x : Str} {px apos cpos : Pos} {ds : List D} (j : Nat) (hj : δ[j]? = some (some (.own (.lst ds)))) (h : wpE X Tb e δ fun d => ∃ es, d = .list es ∧ ds.length + es.length ≤ sizeLine ∧ R.nx (δ.set j (some (.own (.lst (ds ++ es)))))) (hN : X.N[j]? = some x := by rfl)
    (hv : Vis X.env.scope x := by first | exact Or.inl rfl | exact Or.inr (Or.inl rfl) | exact Or.inr (Or.inr rfl)) (h1 : (x == ("__debug__" : Str)) = false := by decide) (h2 : (x == ("__classdict__" : Str)) = false := by decide)
    (hs : starEach [e] X.env = (false, eval e X.env) :: starEach [] X.env := by rfl) {hpe : ∀ {ta : TE} {t : TA}, PE X (.Name x px) ta → PA X [e] t → PE X (.Call (.Attribute (.Name x px) "extend" apos) [e] [] cpos) (tBM X.K "list" rExtend ta t)}
    (hsw : swapsWith (.Call (.Attribute (.Name x px) "extend" apos) [e] [] cpos) none pos.line X.env = pure false := by rfl) :
    wpS X Tb (.Expr (.Call (.Attribute (.Name x px) "extend" apos) [e] [] cpos) pos) δ R := fun B O0 M Lk σ τ H I =>
  sem_s (ps_expr (hpe (pe_var hN hv h1 h2) (pa_cons pe_sem pa_nil hs)) hsw) (by
    obtain ⟨O, I⟩ := I
    obtain ⟨v, e0, p, rfl, hp, hb, hb2, xs, hx, r⟩ := I.slots j _ hj
    refine ⟨.ref p, e0, .inl ⟨rfl, _, .inl (.inl hx)⟩, h B O0 M Lk σ τ H ⟨O, I⟩ _ fun u d H' J q => ?_⟩
    obtain ⟨es, rfl, q1, q2⟩ := q
    obtain ⟨O', J⟩ := J
    obtain ⟨J0, ru⟩ := J.pop1
    obtain ⟨v1, e1, p1, e2, hp1, _, _, xs1, hx1, r1⟩ := J0.slots j _ hj
    have ev : V.ref p = v1 := Option.some.inj (Option.some.inj (e0.symm.trans e1))
    rw [e2] at ev
    obtain rfl : p = p1 := V.ref.inj ev
    obtain ⟨b, ys, rfl, hy, ry⟩ := ru.list'
    exact ⟨p, b, xs1, ys, rfl, rfl, hx1, (vis_some hy).2, by rw [r1.length, ry.length]; exact q1, _, ⟨O', J0.mutL hj e0 (r1.append ry)⟩, q2⟩)
/-- a list's truth -/
theorem wpT_tru {Pb : Bool → Prop} (h : wpE X Tb e δ fun d => ∃ ds, d = .list ds ∧ Pb (!ds.isEmpty)) (he : ∀ whole, isTrue e X.env whole = (do let v ← whole; standAt e.pos; holding [v] (truthy v)) := by intro _; rfl) : wpT X Tb e δ Pb := fun B O0 M Lk σ τ H I Q q =>
  sem_t (pt_truth pe_sem he) (h B O0 M Lk σ τ H I _ fun v d H' J h1 => by
    obtain ⟨ds, rfl, h1⟩ := h1
    obtain ⟨O, J⟩ := J
    obtain ⟨J0, r⟩ := J.pop1
    obtain ⟨a, xs, rfl, ha, rx⟩ := r.list'
    refine ⟨!ds.isEmpty, .inl ⟨xs, SqL.of (vis_some ha).2, ?_⟩, q _ H' ⟨O, J0⟩ h1⟩
    cases rx <;> rfl)
/-- the truth of a list of the frame's own -/
theorem wpT_truO {x : Str} {px : Pos} {ds : List D} {Pb : Bool → Prop} (j : Nat) (hj : δ[j]? = some (some (.own (.lst ds)))) (h : Pb (!ds.isEmpty)) (hN : X.N[j]? = some x := by rfl)
    (hv : Vis X.env.scope x := by first | exact Or.inl rfl | exact Or.inr (Or.inl rfl) | exact Or.inr (Or.inr rfl)) (h1 : (x == ("__debug__" : Str)) = false := by decide) (h2 : (x == ("__classdict__" : Str)) = false := by decide)
    (he : ∀ whole, isTrue (.Name x px) X.env whole = (do let v ← whole; standAt (Expr.Name x px).pos; holding [v] (truthy v)) := by intro _; rfl) : wpT X Tb (.Name x px) δ Pb := fun B O0 M Lk σ τ H I Q q =>
  sem_t (pt_truth (pe_var hN hv h1 h2) he) (by
    obtain ⟨O, I⟩ := I
    obtain ⟨v, e0, p, rfl, hp, hb, hb2, xs, hx, r⟩ := I.slots j _ hj
    refine ⟨.ref p, e0, !ds.isEmpty, .inl ⟨xs, .inl (.inl hx), ?_⟩, q _ H ⟨O, I⟩ h⟩
    cases r <;> rfl)
/-- a text's sign by its place -/
theorem r_strIx {z : Str} {i : Int} {c : Nat} {P : D → Prop} (hz : z.length ≤ sizeLine) (h : atI z.cps.toList i = some c) (q : P (.str ⟨#[c]⟩)) : ixR (.str z) (.int i) P := ⟨c, hz, h, q⟩
theorem nf_new {H H' : Hp} {p : Addr} {ob : HO} (h : Nf H H') (ho : ∀ od u, ob ≠ .frz od u := by exact fun _ _ z => nomatch z) : Nf H (upd H' p ob) := fun a od u e => by
  by_cases z : a = p
  · rw [z, upd_same] at e
    exact absurd (Option.some.inj e) (ho od u)
  · rw [upd_ne z] at e
    exact h a od u e
theorem nf_refl (H : Hp) : Nf H H := fun a od u e => by rw [e]; exact fun z => nomatch z
/-- the promise of a feed; lists may be made ahead of it -/
def spFeedG (K : PySem.W.Frag) : Sp := fun vs H Q _ => ∃ (a : Addr) (ns : List Int) (i : Nat), vs = [.ref a, .int (i : Nat)] ∧ SqL K H a (ns.map V.int) ∧ ∀ p x y Hm, Gr [] [] H Hm → Nf H Hm → Hm p = none → Q (.ref p) (upd Hm p (.lst [.int x, .int y]))
end
section
variable {X : Cx} {Tb : List Addr} {δ : Dl} {a b c e o i : Expr} {es eks : List Expr} {pos pos' p p1 p2 pF py : Pos} {P P' : D → Prop} {st : Stmt} {sts : List Stmt} {R R' : Rs}
/-- name = _law_feed(script, k) -/
theorem wpS_feedG {x xF y : Str} {px : Pos} {fF : Addr} {fdF : FuncData} {kF : Nat} {psF : List Str} {ns : List Int} (j jx : Nat) (FF : FnOk X.prog X.w X.K X.mg X.base CX0 kF fF fdF psF (spFeedG X.K)) (hrF : Room kF X.A) (hmF : X.mg xF = some (.ref fF)) (hkF : PySem.W.keepIn X.K (.ref fF) = true) (hbF : Binds X.K fdF psF [])
    (hj : δ[j]? = some (some (.scr ns))) (h : wpA X Tb eks δ fun ds => ∃ i : Nat, ds = [.int (i : Nat)] ∧ R.nx (δ.set jx (some (.own .feed)))) (hNd : X.N.Nodup) (hix : X.N[jx]? = some x := by rfl) (hx : Loc X.env.scope x := by first | exact Or.inl rfl | exact Or.inr rfl)
    (hN : X.N[j]? = some y := by rfl) (hv : Vis X.env.scope y := by first | exact Or.inl rfl | exact Or.inr (Or.inl rfl) | exact Or.inr (Or.inr rfl)) (h1 : (y == ("__debug__" : Str)) = false := by decide) (h2 : (y == ("__classdict__" : Str)) = false := by decide)
    (hgF : Gl X xF := by rfl) (hdF : (xF == ("__debug__" : Str)) = false := by decide)
    (heF : starEach (.Name y py :: eks) X.env = (false, eval (.Name y py) X.env) :: starEach eks X.env := by rfl) (hplF : (backTo p (starEach eks X.env)).any (·.1) = false := by rfl)
    (hs : swapsWith (.Call (.Name xF pF) (.Name y py :: eks) [] p) (some (.Name x px)) pos.line X.env = pure false := by rfl) (hf : X.fn x = true ∨ X.env.scope.names.lookup x = some .local := by first | exact .inl rfl | exact .inr rfl) :
    wpS X Tb (.Assign [.Name x px] (.Call (.Name xF pF) (.Name y py :: eks) [] p) pos) δ R := fun B O0 M Lk σ τ H I => by
  refine sem_s (ps_set hNd hix hx (pe_call FF hrF hgF hmF hkF hbF .nil (pass0 (X := X)) (pa_cons (pe_var hN hv h1 h2) pa_sem heF) hdF heF hplF) hs hf) ?_
  obtain ⟨O, J⟩ := id I
  obtain ⟨ad, e0, hS⟩ := J.scr hj
  refine ⟨.ref ad, e0, h B O0 M Lk σ τ H I _ fun ps H1 J1 h1 => ?_⟩
  obtain ⟨i, hds, h2⟩ := h1
  obtain ⟨O1, J1⟩ := J1
  obtain ⟨J1, r1⟩ := J1.popA
  rw [hds] at r1
  obtain ⟨a1, e1, hS1⟩ := J1.scr hj
  have ea : ad = a1 := V.ref.inj (Option.some.inj (Option.some.inj (e0.symm.trans e1)))
  subst ea
  have e2 : ps.map (·.1) = [V.int (i : Nat)] := by
    obtain ⟨v, ev, rv⟩ := r1.one'
    rw [ev, rv.int']
  refine ⟨ad, ns, i, ?_, hS1, fun q x z Hm g nf hq => ⟨_, ⟨_, (J1.grow g (fun _ z => nomatch z) (fun _ z => nomatch z) (fun _ z => nomatch z) (fun _ z => nomatch z) nf).ownF (j := jx) hq⟩, h2⟩⟩
  show (.ref ad :: ps.map (·.1)) ++ [] = _
  rw [e2]
  rfl
end
end DL

set_option Elab.async false
set_option linter.all false
set_option maxRecDepth 100000
set_option maxHeartbeats 2000000
/-! DL36: zip, comprehensions whose target is two names. -/
namespace DL
open PySem PySem.Spec L2
section
variable {X : Cx} {Tb : List Addr} {δ : Dl} {tg e e2 iter elt : Expr} {pos p : Pos}
def zipD (xs ys : List D) : List D := (xs.zip ys).map fun p => .tuple [p.1, p.2]
theorem iterZ {G : Glo} {a b : Addr} {xs ys : List D} : IterJ G (Itz G.K a b) (zipD xs ys) [(.ref a, .list xs), (.ref b, .list ys)] := by
  intro B O0 M Lk O δ σ τ H I hk i
  obtain ⟨a', vs, e, ha, rx⟩ := Rp.list' (I.tmp _ (hk _ List.mem_cons_self))
  obtain rfl := V.ref.inj e
  obtain ⟨b', us, e, hb, ry⟩ := Rp.list' (I.tmp _ (hk _ (List.mem_cons_of_mem _ List.mem_cons_self)))
  obtain rfl := V.ref.inj e
  have hA : SqL G.K H a vs := SqL.of (vis_some ha).2
  have hB : SqL G.K H b us := SqL.of (vis_some hb).2
  have hl : (zipD xs ys).length = min xs.length ys.length := by unfold zipD; rw [List.length_map, List.length_zip]
  rw [hl]
  refine ⟨fun hi => ?_, fun hi => ⟨vs, us, hA, hB, by rw [rx.length, ry.length]; omega⟩⟩
  have hix : i < xs.length := by omega
  have hiy : i < ys.length := by omega
  obtain ⟨v, hv, rv⟩ := rx.get (List.getElem?_eq_getElem hix)
  obtain ⟨u, hu, ru⟩ := ry.get (List.getElem?_eq_getElem hiy)
  refine ⟨⟨vs, us, v, u, hA, hB, hv, hu⟩, fun x H' hy => ?_⟩
  obtain ⟨T, x1, y1, rfl, hT, rfl, h1, h2⟩ := hy
  have e1 := h1 vs hA
  rw [hv] at e1
  cases e1
  have e2 := h2 us hB
  rw [hu] at e2
  cases e2
  refine ⟨.tuple [xs[i], ys[i]], ?_, I.newTup (.cons rv (.cons ru .nil)) hT⟩
  unfold zipD
  rw [List.getElem?_map, (List.getElem?_zip_eq_some (z := (xs[i], ys[i]))).mpr ⟨List.getElem?_eq_getElem hix, List.getElem?_eq_getElem hiy⟩]
  rfl
theorem wpI_zip {tes : List Expr} {kk : Nat} {tpos : Pos} {P : List D → Prop} (hm : X.mg "zip" = none) (h : wpA X Tb [e, e2] δ fun ds => ∃ xs ys, ds = [.list xs, .list ys] ∧ P (zipD xs ys)) (hg : Gl X "zip" := by rfl)
    (hs : starEach [e, e2] X.env = (false, eval e X.env) :: starEach [e2] X.env := by rfl) (hpl : (backTo pos (starEach [e2] X.env)).any (·.1) = false := by rfl) : wpI X Tb (.Tuple tes kk tpos) (.Call (.Name "zip" p) [e, e2] [] pos) δ P :=
  ⟨_, pi_zip hg hm pa_sem hs hpl, fun B O0 M Lk σ τ H I R q => h B O0 M Lk σ τ H I _ fun ps H' J h1 => by
    obtain ⟨xs, ys, hps, h1⟩ := h1
    obtain ⟨p1, ps, rfl, e1, hps⟩ := List.map_eq_cons_iff.mp hps
    obtain ⟨p2, ps, rfl, e2, hps⟩ := List.map_eq_cons_iff.mp hps
    obtain rfl := List.map_eq_nil_iff.mp hps
    obtain ⟨v1, d1⟩ := p1
    obtain ⟨v2, d2⟩ := p2
    obtain rfl : d1 = .list xs := e1
    obtain rfl : d2 = .list ys := e2
    obtain ⟨O, J⟩ := J
    obtain ⟨a, vs, rfl, ha, rx⟩ := (J.tmp _ List.mem_cons_self).list'
    obtain ⟨b, us, rfl, hb, ry⟩ := (J.tmp _ (List.mem_cons_of_mem _ List.mem_cons_self)).list'
    exact ⟨a, b, vs, us, rfl, SqL.of (vis_some ha).2, SqL.of (vis_some hb).2, q _ _ [(.ref a, .list xs), (.ref b, .list ys)] H' ⟨O, J⟩ iterZ h1⟩⟩
abbrev LcG2 (X : Cx) (Tb : List Addr) (scope : Scope) (elt : Expr) (δ : Dl) (j1 j2 : Nat) (c : Option Expr) (P : D → Prop) (ds : List D) : Prop := ds.length < sizeLine ∧ (∀ d ∈ ds, ∃ d1 d2, d = .tuple [d1, d2]) ∧ ∃ Iv : Nat → List D → Prop, Iv 0 [] ∧ (∀ i d1 d2 acc, ds[i]? = some (.tuple [d1, d2]) → Iv i acc →
      match c with
      | none => ∀ z H C cl fp, wpE (blkX X z H scope C cl fp) Tb elt ((δ.set j1 (some (.d d1))).set j2 (some (.d d2))) fun y => Iv (i + 1) (acc ++ [y])
      | some t => ∃ T : Bool → Prop, (∀ z H C cl fp, wpT (blkX X z H scope C cl fp) Tb t ((δ.set j1 (some (.d d1))).set j2 (some (.d d2))) T) ∧ (T true → ∀ z H C cl fp, wpE (blkX X z H scope C cl fp) Tb elt ((δ.set j1 (some (.d d1))).set j2 (some (.d d2))) fun y => Iv (i + 1) (acc ++ [y])) ∧ (T false → Iv (i + 1) acc)) ∧
      ∀ acc, Iv ds.length acc → P (.list acc)
theorem wipe2 {σ : L2.St} {j1 j2 : Nat} (n : j1 ≠ j2) (u1 u2 : Option V) : ((L2.wipe σ [j1, j2]).set j1 u1).set j2 u2 = (σ.set j1 u1).set j2 u2 ∧ L2.wipe ((σ.set j1 u1).set j2 u2) [j1, j2] = L2.wipe σ [j1, j2] := by
  constructor
  · show (((σ.set j2 none).set j1 none).set j1 u1).set j2 u2 = _
    rw [List.set_set, List.set_comm _ _ (Ne.symm n), List.set_set]
  · show (((σ.set j1 u1).set j2 u2).set j2 none).set j1 none = (σ.set j2 none).set j1 none
    rw [List.set_set, List.set_comm _ _ (Ne.symm n), List.set_set, List.set_comm _ _ n]
theorem lc_q2 {scope : Scope} {P : D → Prop} {c : Option Expr} {x y : Str} {wi : TI} (j1 j2 : Nat) (n : j1 ≠ j2) (hj1 : δ[j1]? = some none) (hj2 : δ[j2]? = some none)
    (hw : ∀ B O0 M Lk σ τ H, At (GX X Tb) B O0 M Lk δ σ τ H → ∀ R : It → Hp → Prop, (∀ J ds κ H', At (GX X Tb) B O0 M Lk δ σ (κ ++ τ) H' → IterJ (GX X Tb) J ds κ → LcG2 X Tb scope elt δ j1 j2 c P ds → R J H') → wi σ H R)
    {B : Hp} {O0 M : List Addr} {Lk : Lks} {σ : L2.St} {τ : List (V × D)} {H : Hp} (I : At (GX X Tb) B O0 M Lk δ σ τ H) {Q : VK} (q : ∀ v d H', At (GX X Tb) B O0 M Lk δ σ ((v, d) :: τ) H' → P d → Q v H') :
    tLc wi (gTup X.K 2 (gAll [j1, j2])) (lcT X scope c) (fun σ H' Q => ∀ z H C cl fp, semE (blkX X z H scope C cl fp) elt σ H' Q) ([(x, j1), (y, j2)].map (·.2)) σ H Q := by
  refine hw B O0 M Lk σ τ H I _ fun J ds κ H1 I1 it h1 => ?_
  obtain ⟨hlen, hds, Iv, h0, hstep, hend⟩ := h1
  obtain ⟨O, I1⟩ := I1
  intro L hL
  obtain ⟨I2, ve, hBL⟩ := I1.hide (q := L) (ob := .lst []) hL
  have noh : ∀ p ∈ Lk.2, p.1 ≠ L := fun p hp z => by
    have := (I1.hid p hp).1
    rw [z, hL] at this
    cases this
  refine ⟨fun i m H => m = ds.length - i ∧ i ≤ ds.length ∧ ∃ ps : List (V × D), At (GX X Tb) B O0 M (Lk.1, (L, .lst (ps.map (·.1))) :: Lk.2) δ σ (ps ++ (κ ++ τ)) H ∧ ps.length ≤ i ∧ Iv i (ps.map (·.2)), ⟨_, rfl, Nat.zero_le _, [], ⟨_, I2⟩, Nat.le_refl _, h0⟩, fun i m H ⟨em, hi, ps, ⟨O, I3⟩, hal, hv⟩ => ?_⟩
  have itv := it B O0 M _ O δ σ (ps ++ (κ ++ τ)) H I3 (fun p hp => List.mem_append.mpr (.inr (List.mem_append.mpr (.inl hp)))) i
  by_cases hlt : i < ds.length
  · obtain ⟨go, yl⟩ := itv.1 hlt
    refine .inr ⟨go, fun H' => ∃ ps : List (V × D), At (GX X Tb) B O0 M (Lk.1, (L, .lst (ps.map (·.1))) :: Lk.2) δ σ (ps ++ (κ ++ τ)) H' ∧ ps.length ≤ i + 1 ∧ Iv (i + 1) (ps.map (·.2)), fun H' q1 => ⟨ds.length - (i + 1), by omega, rfl, hlt, q1⟩, fun v H' hy => ?_⟩
    obtain ⟨d, hd, I4⟩ := yl v H' hy
    obtain ⟨d1, d2, rfl⟩ := hds d (List.mem_of_getElem? hd)
    obtain ⟨I5, rv⟩ := I4.pop1
    obtain ⟨ta, vs, rfl, ht, rx⟩ := rv.tuple'
    obtain ⟨v1, v2, rfl, r1, r2⟩ := rx.two'
    have w2 := wipe2 (σ := σ) n (some v1) (some v2)
    refine ⟨ta, [v1, v2], rfl, SqT.of (vis_some ht).2, rfl, _, _, rfl, _, _, rfl, rfl, ?_⟩
    have ez : L2.wipe σ (List.map (fun x => x.2) [(x, j1), (y, j2)]) = L2.wipe σ [j1, j2] := rfl
    rw [ez, w2.1]
    refine ⟨w2.2, ?_⟩
    have I6 := (I5.set (j := j1) r1).set (j := j2) r2
    have back : ∀ {O : List Addr} {τ' : List (V × D)} {H4 : Hp}, AtO (GX X Tb) B O0 M (Lk.1, (L, .lst (ps.map (·.1))) :: Lk.2) O ((δ.set j1 (some (.d d1))).set j2 (some (.d d2))) ((σ.set j1 (some v1)).set j2 (some v2)) τ' H4 → AtO (GX X Tb) B O0 M (Lk.1, (L, .lst (ps.map (·.1))) :: Lk.2) O δ σ τ' H4 := fun I =>
      AtO.unset (σ := σ) hj1 (by rw [List.length_set]) (fun i n => by rw [List.getElem?_set_ne (Ne.symm n)]) (AtO.unset (σ := σ.set j1 (some v1)) (by rw [List.getElem?_set_ne n]; exact hj2) (by rw [List.length_set]) (fun i n => by rw [List.getElem?_set_ne (Ne.symm n)]) I)
    have fin : ∀ {y : V} {dy : D} {H4 : Hp}, At (GX X Tb) B O0 M (Lk.1, (L, .lst (ps.map (·.1))) :: Lk.2) ((δ.set j1 (some (.d d1))).set j2 (some (.d d2))) ((σ.set j1 (some v1)).set j2 (some v2)) ((y, dy) :: (ps ++ (κ ++ τ))) H4 → Iv (i + 1) (ps.map (·.2) ++ [dy]) →
        ∃ acc, H4 L = some (.lst acc) ∧ acc.length < sizeLine ∧ ∃ ps : List (V × D), At (GX X Tb) B O0 M (Lk.1, (L, .lst (ps.map (·.1))) :: Lk.2) δ σ (ps ++ (κ ++ τ)) (upd H4 L (.lst (acc ++ [y]))) ∧ ps.length ≤ i + 1 ∧ Iv (i + 1) (ps.map (·.2)) := fun {y dy H4} ⟨O4, I7⟩ hq => by
      have I8 := back I7
      refine ⟨_, (I8.hid _ List.mem_cons_self).1, ?_, ps ++ [(y, dy)], ?_, ?_, ?_⟩
      · rw [List.length_map]
        exact Nat.lt_of_le_of_lt (Nat.le_trans hal hi) hlen
      · obtain ⟨I9, _⟩ := I8.turn (ob' := .lst (ps.map (·.1) ++ [y])) noh
        rw [List.map_append]
        refine ⟨O4, I9.drops fun p hp => ?_⟩
        simp only [List.append_assoc, List.mem_append, List.mem_cons, List.cons_append, List.nil_append] at hp ⊢
        rcases hp with h | h | h
        · exact .inr (.inl h)
        · exact .inl h
        · exact .inr (.inr h)
      · rw [List.length_append]
        exact Nat.succ_le_succ hal
      · rw [List.map_append]
        exact hq
    have st := hstep i d1 d2 _ hd hv
    cases c with
    | none => exact fun z H C cl fp => st z H C cl fp B O0 M _ _ _ _ ⟨O, I6⟩ _ fun y dy H4 I7 hq => fin I7 hq
    | some t =>
      obtain ⟨T, t1, t2, t3⟩ := st
      intro z H C cl fp
      refine t1 z H C cl fp B O0 M _ _ _ _ ⟨O, I6⟩ _ fun k H3 I7 hq => ?_
      cases k with
      | true => exact fun z H C cl fp => t2 hq z H C cl fp B O0 M _ _ _ _ I7 _ fun y dy H4 I8 hq => fin I8 hq
      | false =>
        obtain ⟨O4, I7⟩ := I7
        exact ⟨ps, ⟨O4, back I7⟩, Nat.le_succ_of_le hal, t3 hq⟩
  · have e : i = ds.length := by omega
    subst e
    obtain ⟨O', I5, le, eL⟩ := I3.show' noh
    refine .inl ⟨itv.2 (Nat.le_refl _), q _ _ _ ⟨O', (I5.drops (τ' := τ) fun p hp => ?_).push (.lst eL (rpA_of fun p hp => I5.tmp p (List.mem_append.mpr (.inl hp))))⟩ (hend _ hv)⟩
    exact List.mem_append.mpr (.inr (List.mem_append.mpr (.inr hp)))
/-- [elt for x, y in iter if c ..] -/
theorem wpE_lc2 {x y : Str} {px py pt : Pos} {kt : Nat} {ifs : List Expr} {scope : Scope} {P : D → Prop} {c : Option Expr} (j1 j2 : Nat) (n : j1 ≠ j2) (hj1 : δ[j1]? = some none) (hj2 : δ[j2]? = some none)
    (h : wpI X Tb (.Tuple [.Name x px, .Name y py] kt pt) iter δ (LcG2 X Tb scope elt δ j1 j2 c P))
    (hc : X.calm = true) (hN : X.N.Nodup) (ok : BlkOk X.N X.env.scope scope [(x, j1), (y, j2)]) (hifs : ifs = c.toList) (hi1 : X.N[j1]? = some x := by rfl) (hi2 : X.N[j2]? = some y := by rfl) (hloc1 : ∀ C cl, Loc (compEnvC scope cl C X.env).scope x := by intro _ _; first | exact Or.inl rfl | exact Or.inr rfl) (hloc2 : ∀ C cl, Loc (compEnvC scope cl C X.env).scope y := by intro _ _; first | exact Or.inl rfl | exact Or.inr rfl)
    (hlo1 : ∀ C cl, (compEnvC scope cl C X.env).scope.names.lookup x = some .local := by intro _ _; rfl) (hlo2 : ∀ C cl, (compEnvC scope cl C X.env).scope.names.lookup y = some .local := by intro _ _; rfl)
    (hs : ∀ x, foldedSetIterable iter X.env x = pure x := by intro _; rfl) : wpE X Tb (.ListComp elt [⟨.Tuple [.Name x px, .Name y py] kt pt, iter, ifs, 0⟩] scope pos) δ P := fun B O0 M Lk σ τ H I Q q => by
  obtain ⟨wi, hwi, hw⟩ := h
  have gtr : ∀ (z : Shared) (H : Hp) (C : Addr) (cl : List (Str × Addr)) (fp : List Addr), PG (X.blk z H scope (compEnvC scope cl C X.env) fp) (.Tuple [.Name x px, .Name y py] kt pt) (gTup X.K 2 (gAll [j1, j2])) := fun z H C cl fp => pg_tup (X := X.blk z H scope (compEnvC scope cl C X.env) fp) hc (pgs_cons (pg_name hN hi1 (hloc1 C cl) (.inr (hlo1 C cl))) (pgs_cons (pg_name hN hi2 (hloc2 C cl) (.inr (hlo2 C cl))) pgs_nil))
  have etr : ∀ (z : Shared) (H : Hp) (C : Addr) (cl : List (Str × Addr)) (fp : List Addr), PE (X.blk z H scope (compEnvC scope cl C X.env) fp) elt (fun σ H' Q => ∀ z H C cl fp, semE (blkX X z H scope C cl fp) elt σ H' Q) := fun z H C cl fp => ⟨fun pins s σ H' Q I h => (h z H C cl fp).run pins s I⟩
  have ttr : ∀ (z : Shared) (H : Hp) (C : Addr) (cl : List (Str × Addr)) (fp : List Addr), PTs (X.blk z H scope (compEnvC scope cl C X.env) fp) ifs (lcT X scope c) := fun z H C cl fp => by
    subst hifs
    cases c with
    | none => exact pts_nil
    | some t => exact pts_one ⟨fun pins s σ H' Q I h => (h z H C cl fp).run pins s I⟩
  exact sem_e (pe_lc hc hN hwi ok gtr ttr etr hs) (lc_q2 j1 j2 n hj1 hj2 hw I q)
end
end DL

set_option Elab.async false
set_option linter.all false
set_option maxRecDepth 100000
set_option maxHeartbeats 4000000
namespace K31
open PySem PySem.Spec L2 DL
def topS (i : Nat) : Stmt := PySem.Challenge.pw_gatepairs_k31_whole_worlds_without_overt.main.body.getD i (.Pass ⟨0, 0, 0, 0⟩)
abbrev sIsOrd : Stmt := topS 1
abbrev sOrdW : Stmt := topS 2
abbrev sFeed : Stmt := topS 4
abbrev sTake : Stmt := topS 5
abbrev sPick : Stmt := topS 6
abbrev sKinds : Stmt := topS 7
abbrev sLine : Stmt := topS 8
abbrev sLog : Stmt := topS 9
abbrev sFits : Stmt := topS 10
abbrev sMay : Stmt := topS 11
abbrev sGraph : Stmt := topS 12
abbrev sIsWorld : Stmt := topS 14
abbrev sWorlds : Stmt := topS 16
abbrev sOneKind : Stmt := topS 17
abbrev sOvert : Stmt := topS 18
abbrev sRight : Stmt := topS 19
abbrev sLaw : Stmt := topS 20
/-! ### data of the program -/
structure Line where
  time : Int
  kind : Option Str
  plate : Option Str
abbrev Kinds := List (Str × Int × Int)
def oS : Option Str → D
  | none => .none
  | some x => .str x
def lineD (l : Line) : D := .tuple [.int l.time, oS l.kind, oS l.plate]
def kindsD (ks : Kinds) : D := .dict (ks.map fun k => (.str k.1, .tuple [.int k.2.1, .int k.2.2]))
def floorD : Option Int → D
  | none => .str "closed"
  | some f => .int f
structure Log where
  entries : List Line
  exits : List Line
  ef : Option Int
  xf : Option Int
def logD (l : Log) : D := .tuple [.list (l.entries.map lineD), .list (l.exits.map lineD), floorD l.ef, floorD l.xf]
def look (ks : Kinds) (k : Str) : Option (Int × Int) := (ks.find? fun p => p.1 == k).map (·.2)
def lineKinds (ks : Kinds) (l : Line) : List Str := match l.kind with
  | none => ks.map (·.1)
  | some k => [k]
def platesAgree (a b : Option Str) : Bool := match a, b with
  | none, _ => true
  | _, none => true
  | some x, some y => decide (x = y)

theorem le_line {n : Nat} (h : n ≤ 1000) : n ≤ sizeLine := Nat.le_trans h (by decide)
abbrev FnV (Tb : List Addr) (args : List D) (res : D) : Sp := spD Tb 0 args.length (fun ds => ds = args) (fun _ d => d = res)
section
variable {P : Program} {w : World} {K : PySem.W.Frag} {mg : Str → Option Value} {base : Heap} {Tb : List Addr}
theorem keys_kinds (ks : Kinds) : (ks.map fun k => ((.str k.1 : D), (.tuple [.int k.2.1, .int k.2.2] : D))).map (·.1) = (ks.map (·.1)).map .str := by
  rw [List.map_map, List.map_map]
  rfl
def okLine (ks : Kinds) (l : Line) : Prop := ∀ k, l.kind = some k → (look ks k).isSome = true
theorem dlook_kinds (k : Str) : ∀ ks : Kinds, dlook (.str k) (ks.map fun k => (.str k.1, .tuple [.int k.2.1, .int k.2.2])) = (look ks k).map fun p => .tuple [.int p.1, .int p.2]
  | [] => rfl
  | q :: r => by
    have ih := dlook_kinds k r
    rw [List.map_cons]
    unfold look at ih ⊢
    rw [List.find?_cons]
    by_cases e : q.1 = k
    · have e2 : (q.1 == k) = true := by rw [e]; exact beq_self_eq_true k
      rw [e2]
      show (if q.1 = k then _ else _) = _
      rw [if_pos e]
      rfl
    · have e2 : (q.1 == k) = false := by rw [beq_eq_false_iff_ne]; exact e
      rw [e2]
      show (if q.1 = k then _ else _) = _
      rw [if_neg e]
      exact ih
theorem look_mem : ∀ {ks : Kinds} {k : Str}, k ∈ ks.map (·.1) → (look ks k).isSome = true
  | q :: r, k, h => by
    unfold look
    rw [List.find?_cons]
    by_cases e : q.1 = k
    · have e2 : (q.1 == k) = true := by rw [e]; exact beq_self_eq_true k
      rw [e2]
      rfl
    · have e2 : (q.1 == k) = false := by rw [beq_eq_false_iff_ne]; exact e
      rw [e2]
      rw [List.map_cons, List.mem_cons] at h
      exact look_mem (ks := r) (h.resolve_left fun z => e z.symm)
/-! ### the draws -/
abbrev nFeed : List Str := ["script", "k", "seed", "digits"]
theorem scFeed : FnScope nFeed ["script", "k"] (defScope sFeed) := ⟨rfl, rfl, rfl, by decide +kernel, rfl, by decide +kernel, by decide +kernel⟩
theorem head_int {xs : List V} {ns : List Int} {lo hi : Option Int} (h : xs = ns.map V.int) (x : Int) : ∃ z, atI (cutV xs lo hi ++ [.int x]) 0 = some (.int z) := by
  have hm : ∀ v ∈ cutV xs lo hi ++ [.int x], ∃ z, v = .int z := by
    intro v hv
    rcases List.mem_append.mp hv with hv | hv
    · unfold cutV at hv
      have := List.mem_of_mem_drop (List.mem_of_mem_take hv)
      rw [h] at this
      obtain ⟨z, _, rfl⟩ := List.mem_map.mp this
      exact ⟨z, rfl⟩
    · exact ⟨x, List.mem_singleton.mp hv⟩
  cases e : cutV xs lo hi ++ [.int x] with
  | nil => exact absurd (congrArg List.length e) (by simp)
  | cons v vs =>
    obtain ⟨z, rfl⟩ := hm v (by rw [e]; exact List.mem_cons_self)
    exact ⟨z, at_nat (n := 0) (xs := .int z :: vs) rfl⟩
theorem cut_one (xs : List V) (i : Nat) : (cutV xs (some (i : Nat)) (some (((i : Nat) : Int) + 1))).length ≤ 1 := by
  unfold cutV
  rw [List.length_take, List.length_drop, show (((i : Nat) : Int) + 1) = ((i + 1 : Nat) : Int) from by omega, HT.sIx_nat, HT.sIx_nat]
  omega
theorem ok_feed {f c : Addr} {fd : FuncData} (F : FunC K "_law_feed" "_law_feed" sFeed f c fd) (m_list : mg "list" = none) (m_max : mg "max" = none) (m_abs : mg "abs" = none) : FnOk P w K mg base CX0 1 f fd ["script", "k"] (spFeedG K) := by
  refine F.fun.ok scFeed (fun vs H Q E h => ?_) (fun cdv A outer s H vs Q E hr h => ?_)
  · obtain ⟨a, ns, i, rfl, _⟩ := h
    rfl
  · obtain ⟨a, ns, i, rfl, hS, q⟩ := h
    refine ⟨_, pss_cons (ps_set (i := 2) scFeed.nd rfl (.inl rfl) (pe_ix ix_list (pe_op op_cat (pe_callTy call_list_of (by rfl) m_list PyProof.Rows.boot_list (pa_cons (pe_slice sl_list (pv 0) (po_some (pv 1)) (po_some (pe_op op_add (pv 1) pe_int))) pa_nil)) (pe_lst (pa_cons (pe_op op_add (pe_op op_mul pe_int (pv 1)) pe_int) pa_nil))) pe_int (fun _ _ => rfl)))
      (pss_cons (ps_set (i := 3) scFeed.nd rfl (.inl rfl) (pe_callB (call_max2 rfl) (by rfl) m_max PyProof.Rows.boot_max (pa_cons pe_int (pa_cons (pe_op op_sub (pe_callB call_abs (by rfl) m_abs boot_abs' (pa_cons (pv 2) pa_nil)) (pe_op op_pow pe_int pe_int)) pa_nil))))
      (pss_one (ps_ret (pe_lst (pa_cons (pv 3) (pa_cons (pe_op op_mod (pe_op op_add (pe_op op_add (pe_op op_mul (pe_op op_mod (pe_callB call_abs (by rfl) m_abs boot_abs' (pa_cons (pv 2) pa_nil)) pe_int) pe_int) (pe_op op_mul pe_int (pv 1))) pe_int) pe_int) pa_nil)))))), ?_⟩
    refine ⟨.ref a, rfl, .int (i : Nat), rfl, (i : Nat), rfl, .int (i : Nat), rfl, (i : Nat), 1, rfl, rfl, ((i : Nat) : Int) + 1, rfl, a, _, rfl, hS, fun p1 hp1 => ?_⟩
    refine ⟨p1, _, rfl, .inl (.inl (.inl upd_same)), fun p2 hp2 => ?_⟩
    refine ⟨.int (i : Nat), rfl, 71, _, rfl, rfl, .inl ⟨by decide, by decide⟩, _, 23, rfl, rfl, lt1000 (Nat.le_of_ble_eq_true rfl), fun p3 hp3 => ?_⟩
    have n23 : p2 ≠ p3 := fun z => by rw [← z, upd_same] at hp3; cases hp3
    obtain ⟨z, hz⟩ := head_int (lo := some (i : Nat)) (hi := some (((i : Nat) : Int) + 1)) (rfl : ns.map V.int = _) (71 * ((i : Nat) : Int) + 23)
    refine ⟨p2, p3, _, _, rfl, rfl, by rw [upd_ne n23]; exact upd_same, upd_same, ?_, fun p4 hp4 => ?_⟩
    · have := cut_one (ns.map V.int) i
      exact lt1000 (by show _ + 1 ≤ 1000; omega)
    refine ⟨p4, _, 0, _, rfl, rfl, .inl (.inl upd_same), hz, ?_⟩
    refine ⟨.int z, rfl, z, rfl, 10, 18, rfl, rfl, ⟨by decide, by decide, by decide⟩, _, _, rfl, rfl, _, _, rfl, ?_⟩
    refine ⟨.int _, rfl, .int z, rfl, z, rfl, _, 1000003, rfl, rfl, (by show (0 : Int) < 1000003; decide), _, 7919, rfl, rfl, .inr ⟨by decide, by decide⟩, ?_⟩
    refine ⟨.int (i : Nat), rfl, 31, _, rfl, rfl, .inl ⟨by decide, by decide⟩, _, _, rfl, rfl, _, _, rfl, rfl, _, _, rfl, rfl, (by show (0 : Int) < 1000033; decide), ?_⟩
    exact ⟨lt1000 (Nat.le_of_ble_eq_true rfl), fun p hp => q p _ _ _ (((((Gr.refl [] [] H).new hp1).new hp2).new hp3).new hp4) (nf_new (nf_new (nf_new (nf_new (nf_refl H))))) hp⟩
abbrev nTake : List Str := ["feed", "size", "number"]
theorem scTake : FnScope nTake ["feed", "size"] (defScope sTake) := ⟨rfl, rfl, rfl, by decide +kernel, rfl, by decide +kernel, by decide +kernel⟩
theorem ok_take {f c : Addr} {fd : FuncData} (F : FunC K "_law_take" "_law_take" sTake f c fd) : FnOk P w K mg base CX0 1 f fd ["feed", "size"] (spD Tb 1 1 preT postT) := by
  refine F.fun.ok scTake (fun vs H Q E h => ?_) (fun cdv A outer s H vs Q E hr h => ?_)
  · obtain ⟨O0, M, ws, ds, rfl, hMl, _, _, _, _, r, hd, _⟩ := h
    rw [List.length_append, List.length_map, r.length, hMl, hd]
    rfl
  · obtain ⟨O0, M, ws, ds, rfl, hMl, h1, h2, h3, h4, r, hd, ⟨m, rfl, hm0, hm1⟩, q⟩ := h
    obtain ⟨p, rfl⟩ : ∃ p, M = [p] := List.length_eq_one_iff.mp hMl
    obtain ⟨u, rfl⟩ : ∃ u, ws = [u] := List.length_eq_one_iff.mp (r.length.trans hd)
    cases r with
    | cons ru _ =>
      have eu := ru.int'
      subst eu
      obtain ⟨a, b, hp⟩ := h3 p List.mem_cons_self
      have fin : ∀ (x y z : Int), 0 ≤ z → z < m → Q (.int z) (upd H p (.lst [.int x, .int y])) := fun x y z z0 z1 =>
        q (.int z) (.int z) _ ((Gr.refl [p] [] H).mut (.inl List.mem_cons_self)) (nf_upd (fun _ _ z => nomatch z)) (fun f hf => by rw [List.mem_singleton.mp hf]; exact ⟨x, y, upd_same⟩) (.int z) ⟨m, z, rfl, rfl, z0, z1⟩
      refine ⟨_, pss_cons (ps_if (pt_cmpR op_gt (pe_ix ix_list (pv 0) pe_int (fun _ _ => rfl)) pe_int (nomark _))
        (pss_cons (ps_set (i := 2) scTake.nd rfl (.inl rfl) (pe_op op_mod (pe_ix ix_list (pv 0) pe_int (fun _ _ => rfl)) (pv 1)))
        (pss_cons (ps_asg (pe_op op_fdiv (pe_ix ix_list (pv 0) pe_int (fun _ _ => rfl)) (pv 1)) (pg_sub (pv 0) pe_int set_list))
        (pss_one (ps_ret (pv 2))))) pss_nil)
        (pss_cons (ps_asg (pe_op op_mod (pe_op op_add (pe_op op_mul (pe_ix ix_list (pv 0) pe_int (fun _ _ => rfl)) pe_int) pe_int) pe_int) (pg_sub (pv 0) pe_int set_list))
        (pss_one (ps_ret (pe_op op_mod (pe_op op_fdiv (pe_ix ix_list (pv 0) pe_int (fun _ _ => rfl)) pe_int) (pv 1))))), ?_⟩
      have sq : SqL K H p [.int a, .int b] := .inl (.inl hp)
      refine ⟨.ref p, rfl, p, [.int a, .int b], 0, .int a, rfl, rfl, sq, rfl, a, 0, rfl, rfl, _, rfl, ite2 (fun e => ?_) (fun e => ?_)⟩
      · refine ⟨.ref p, rfl, p, [.int a, .int b], 0, .int a, rfl, rfl, sq, rfl, .int m, rfl, a, m, rfl, rfl, hm0, ?_⟩
        refine ⟨.ref p, rfl, p, [.int a, .int b], 0, .int a, rfl, rfl, sq, rfl, .int m, rfl, a, m, rfl, rfl, ⟨hm0, hm1⟩, ?_⟩
        refine ⟨.ref p, rfl, p, [.int a, .int b], 0, 0, rfl, rfl, hp, rfl, ?_⟩
        exact ⟨_, rfl, fin _ _ _ (Int.emod_nonneg _ (by omega)) (Int.emod_lt_of_pos _ hm0)⟩
      · refine ⟨.ref p, rfl, p, [.int a, .int b], 1, .int b, rfl, rfl, sq, rfl, b, 69069, rfl, rfl, .inr ⟨by decide, by decide⟩, _, _, rfl, rfl, _, _, rfl, rfl, (by show (0 : Int) < 4294967311; decide), ?_⟩
        refine ⟨.ref p, rfl, p, [.int a, .int b], 1, 1, rfl, rfl, hp, rfl, ?_⟩
        refine ⟨.ref p, rfl, p, _, 1, _, rfl, rfl, .inl (.inl upd_same), rfl, _, 65536, rfl, rfl, ⟨by decide, by decide⟩, .int m, rfl, _, m, rfl, rfl, hm0, ?_⟩
        exact fin _ _ _ (Int.emod_nonneg _ (by omega)) (Int.emod_lt_of_pos _ hm0)
end
end K31

set_option Elab.async false
set_option linter.all false
set_option maxRecDepth 100000
set_option maxHeartbeats 2000000
/-! DL37: sorted(pairs) as a new list; a def of three statements that returns a new list. -/
namespace DL
open PySem PySem.Spec L2
section
variable {X : Cx} {Tb : List Addr} {δ : Dl} {e : Expr} {pos p : Pos}
theorem boot_sorted2 : bootBuiltins "sorted" = some (.builtin "sorted") := by decide +kernel
/-- sorted(xs), pairs of ints -/
theorem wpF_sorted {P : List D → Prop} (hm : X.mg "sorted" = none) (h : wpE X Tb e δ fun d => ∃ ps : List (Int × Int), d = .list (ps.map pairD) ∧ ∀ qs : List (Int × Int), qs.Perm ps → SrtO.Srtd SrtO.lexB qs → P (qs.map pairD)) (hg : Gl X "sorted" := by rfl) (he : starEach [e] X.env = (false, eval e X.env) :: starEach [] X.env := by rfl) (hpl : (backTo pos (starEach [] X.env)).any (·.1) = false := by rfl) : wpF X Tb (.Call (.Name "sorted" p) [e] [] pos) δ P := fun B O0 M Lk σ τ H I Q q =>
  sem_e (pe_callB cr_sortedPO hg hm boot_sorted2 (pa_cons pe_sem pa_nil he) (by decide) (by decide) he hpl) (h B O0 M Lk σ τ H I _ fun v d H' J h1 => by
    obtain ⟨ps, rfl, h1⟩ := h1
    obtain ⟨O, J⟩ := J
    obtain ⟨J0, r⟩ := J.pop1
    obtain ⟨a, xs, rfl, ha, rx⟩ := r.list'
    obtain ⟨k1, k2⟩ := pairs_of' rx
    refine ⟨a, xs, kOf (vis O H'), rfl, SqL.of (vis_some ha).2, fun x hx => ?_, fun ys l hs hb hn => ?_⟩
    · obtain ⟨t, e, ht⟩ := k2 x hx
      exact ⟨t, e, (vis_some ht).2⟩
    · have h3 : ∀ y ∈ ys, ∃ t, y = V.ref t ∧ vis O H' t = some (.tup [.int (kOf (vis O H') y).1, .int (kOf (vis O H') y).2]) := fun y hy => k2 y (hb.perm.mem_iff.mp hy)
      refine q O ys _ l H' J0 hn (rp_pairs h3) (h1 _ ?_ (SrtO.srtd_map hs))
      rw [← k1]
      exact hb.perm.map _)
end
theorem fn_okN3 {Pg : Program} {w : World} {K : PySem.W.Frag} {mg : Str → Option Value} {base : Heap} {x qual : Str} {st s1 s2 : Stmt} {e : Expr} {rp : Pos} {f c : Addr} {fd : FuncData} {N ps : List Str} {k m n : Nat} {Tb : List Addr} {pre : List D → Prop} {post : List D → List D → Prop} (F : FunC K x qual st f c fd) (S : FnScope N ps (defScope st)) (hm : m ≤ 1) (hn : ps.length = m + n) (hd2 : defBody st = [s1, s2, .Return (some e) rp])
    (hbody : ∀ (A : Around) (outer : List Env) (s : Shared) (H : Hp) (E : XK) (ds : List D), Room k (A.deeper (PyProof.Rows.envOfC qual (defScope st) s.heap.objs.size f (.ref c))) → ds.length = n → pre ds →
      wpS (cxOf CX0 Pg w K mg base N qual (defScope st) f (.ref c) A outer s H E).nox Tb s1 (startD m ds N) { nx := fun δ1 => wpS (cxOf CX0 Pg w K mg base N qual (defScope st) f (.ref c) A outer s H E).nox Tb s2 δ1 { nx := fun δ' => wpH (cxOf CX0 Pg w K mg base N qual (defScope st) f (.ref c) A outer s H E).nox Tb e δ' (post ds), rt := fun _ => False }, rt := fun _ => False }) : FnOk Pg w K mg base CX0 (k + 1) f fd ps (spN Tb m n pre post) := by
  obtain ⟨oc, od, kV, doc, pm, an, ct, osl, rfl, lk, hcd⟩ := F.ex
  have hpl : ps.length ≤ N.length := by have := congrArg List.length S.pre; rw [List.length_take] at this; omega
  refine fn_of lk hcd S (fun vs H Q E h => ?_) fun A outer s H vs Q E hr hsp => ?_
  · obtain ⟨O0, M, ws, ds, rfl, hMl, _, _, _, _, r, hd, _⟩ := h
    rw [List.length_append, List.length_map, r.length, hMl, hd, hn]
  · obtain ⟨O0, M, ws, ds, rfl, hMl, h1, h2, h3, h4, r, hd, hp, q⟩ := hsp
    have hb := hbody A outer s H E ds hr hd hp
    subst hMl
    have I := at_start (G := ⟨K, Tb⟩) (N := N) hm h1 h2 h3 h4 r (by omega)
    rw [hd2]
    have hb1 := hb H O0 M ([], []) _ [] H I
    refine ⟨_, PSs.nox (pss_cons ps_sem (pss_cons ps_sem (pss_one (ps_ret pe_sem)))), semS_le ⟨fun σ' H' h => ?_, fun v H' h => ?_, fun _ _ h => ?_, fun _ _ h => ?_⟩ hb1⟩
    · obtain ⟨δ', J, h⟩ := h
      have hb2 := h H O0 M ([], []) σ' [] H' J
      refine semS_le ⟨fun σ' H' h => ?_, fun v H' h => ?_, fun _ _ h => ?_, fun _ _ h => ?_⟩ hb2
      · obtain ⟨δ', J, h⟩ := h
        refine h H O0 M ([], []) σ' [] H' J _ fun O xs rs p H2 J2 noh rx hpost => ?_
        obtain ⟨hx, hO, hB, _⟩ := J2.hid _ List.mem_cons_self
        refine q p xs rs H2 J2.gr (fun a od u e => (J2.nof a od u e).resolve_right (fun z => nomatch z)) J2.feeds hB hx (rx.mono (vis_le fun a ha => ?_)) hpost
        rcases List.mem_cons.mp ha with e | ha
        · rw [e]; exact hO
        · exact J2.sub0 a ha
      · obtain ⟨d, J, h⟩ := h
        exact h.elim
      · obtain ⟨_, _, h⟩ := h
        exact h.elim
      · obtain ⟨_, _, h⟩ := h
        exact h.elim
    · obtain ⟨d, J, h⟩ := h
      exact h.elim
    · obtain ⟨_, _, h⟩ := h
      exact h.elim
    · obtain ⟨_, _, h⟩ := h
      exact h.elim
end DL

set_option Elab.async false
set_option linter.all false
set_option maxRecDepth 100000
set_option maxHeartbeats 1000000
namespace K31
open PySem PySem.Spec L2 DL
/-! ### worlds -/
abbrev World' := List (Nat × Nat)
def pr (p : Nat × Nat) : Int × Int := ((p.1 : Int), (p.2 : Int))
def worldD (ws : World') : D := .list (ws.map fun p => pairD (pr p))
def ti (ls : List Line) (i : Nat) : Int := (ls.map (·.time)).getD i 0
def InR (lg : Log) (ws : World') : Prop := ∀ p ∈ ws, p.1 < lg.entries.length ∧ p.2 < lg.exits.length
def over1 (lg : Log) (p q : Nat × Nat) : Bool := decide (ti lg.entries p.1 < ti lg.entries q.1) && decide (ti lg.exits p.2 > ti lg.exits q.2)
def overt (lg : Log) (ws : World') : Bool := ws.any fun p => ws.any fun q => over1 lg p q
theorem at_line {ls : List Line} {i : Nat} (h : i < ls.length) : ∃ l, ls[i]? = some l ∧ atI (ls.map lineD) (i : Nat) = some (lineD l) ∧ l.time = ti ls i := by
  refine ⟨ls[i], List.getElem?_eq_getElem h, at_nat (by rw [List.getElem?_map, List.getElem?_eq_getElem h]; rfl), ?_⟩
  unfold ti
  rw [List.getD_eq_getElem?_getD, List.getElem?_map, List.getElem?_eq_getElem h]
  rfl
section
variable {P : Program} {w : World} {K : PySem.W.Frag} {mg : Str → Option Value} {base : Heap} {Tb : List Addr}
theorem map_get {α : Type} {f : α → D} {xs : List α} {i : Nat} {d : D} (h : (xs.map f)[i]? = some d) : ∃ r, xs[i]? = some r ∧ r ∈ xs ∧ d = f r := by
  rw [List.getElem?_map] at h
  cases e : xs[i]? with
  | none => rw [e] at h; cases h
  | some r =>
    rw [e] at h
    exact ⟨r, rfl, List.mem_of_getElem? e, (Option.some.inj h).symm⟩
abbrev nIO : List Str := ["log", "world", "times", "entry", "leaving"]
theorem scIO : FnScope nIO ["log", "world"] (defScope sIsOrd) := ⟨rfl, rfl, rfl, by decide +kernel, rfl, by decide +kernel, by decide +kernel⟩
abbrev GIsOrd (P : Program) (w : World) (K : PySem.W.Frag) (mg : Str → Option Value) (base : Heap) (Tb : List Addr) (f : Addr) (fd : FuncData) : Prop := ∀ (lg : Log) (ws : World'), InR lg ws → ws.length < 1000 → FnOk P w K mg base CX0 2 f fd ["log", "world"] (FnV Tb [logD lg, worldD ws] (.bool (!overt lg ws)))
def tmD (lg : Log) (p : Nat × Nat) : D := .tuple [.int (ti lg.entries p.1), .int (ti lg.exits p.2)]
theorem ok_isOrd {f c Pt : Addr} {fd : FuncData} (F : FunC K "is_ordered" "is_ordered" sIsOrd f c fd) (TB : GxR.TabB base mg c Pt) (hP : Pt ∈ Tb) (m_any : mg "any" = none) : GIsOrd P w K mg base Tb f fd := by
  intro lg ws hin hlen
  refine fn_ok F scIO (by decide) rfl fun A outer s H E ds hr hl hp => ?_
  subst hp
  show wpSs _ _ _ [some (.d (logD lg)), some (.d (worldD ws)), none, none, none] _
  refine wpSs_cons (wpS_set 2 (wpE_lc2 (c := none) 3 4 (by decide) rfl rfl (wpI_list (wpE_var 1 rfl ⟨_, rfl, ?_⟩)) rfl scIO.nd (blkOk_by (N := nIO) (sc := defScope sIsOrd) (by decide +kernel)) rfl) scIO.nd)
  · refine ⟨by rw [List.length_map]; exact Nat.lt_trans hlen (by decide), fun d hd => ?_, fun i acc => acc = (ws.take i).map (tmD lg), rfl, fun i d1 d2 acc hd hv z H C cl fp => ?_, fun acc hv => ?_⟩
    · obtain ⟨p, _, rfl⟩ := List.mem_map.mp hd
      exact ⟨_, _, rfl⟩
    · obtain ⟨p, hp, hm, e⟩ := map_get (f := fun p => pairD (pr p)) hd
      cases e
      obtain ⟨h1, h2⟩ := hin p hm
      obtain ⟨l1, e1, a1, t1⟩ := at_line h1
      obtain ⟨l2, e2, a2, t2⟩ := at_line h2
      show wpE _ _ _ [some (.d (logD lg)), some (.d (worldD ws)), none, some (.d (.int (p.1 : Nat))), some (.d (.int (p.2 : Nat)))] _
      refine wpE_tup (wpA_cons (wpE_ix (wpE_ix (wpE_ix (wpE_var 0 rfl (wpE_int ⟨_, rfl, ?_⟩))))))
      refine wpE_var 3 rfl ⟨_, a1, wpE_int ⟨_, rfl, ?_⟩⟩
      refine wpA_cons (wpE_ix (wpE_ix (wpE_ix (wpE_var 0 rfl (wpE_int ⟨_, rfl, ?_⟩)))))
      refine wpE_var 4 rfl ⟨_, a2, wpE_int ⟨_, rfl, wpA_nil (r_small rfl ?_)⟩⟩
      rw [hv, t1, t2]
      show (ws.take i).map (tmD lg) ++ [tmD lg p] = (ws.take (i + 1)).map (tmD lg)
      rw [List.take_succ, hp, List.map_append]
      rfl
    · rw [hv, List.length_map, List.take_length]
      show wpSs _ _ _ [some (.d (logD lg)), some (.d (worldD ws)), some (.d (.list (ws.map (tmD lg)))), none, none] _
      refine wpSs_one (wpS_ret (wpE_not (wpE_any2 hr m_any TB hP rfl scIO.nd (GX.genOk2_by (N := nIO) (sc := defScope sIsOrd) (by decide +kernel)) (wpI_list (wpE_var 2 rfl ⟨_, rfl, ?_⟩)))))
      refine ⟨fun _ => ws.length, fun i => ((ws.take i).any fun p => ws.any fun q => over1 lg p q) = false, rfl, fun i d hd hv z H code C fp A' hr' => ?_, fun hv => ⟨_, rfl, ?_⟩⟩
      · obtain ⟨p, hp, hm, rfl⟩ := map_get (f := tmD lg) hd
        refine wpI_list (wpE_var 4 rfl ⟨_, rfl, by rw [List.length_map], fun j => ((ws.take j).any fun q => over1 lg p q) = false, rfl, fun j e he hj z H code C fp A' hr' => ?_, fun hj => ?_⟩)
        · obtain ⟨q, hq, hmq, rfl⟩ := map_get (f := tmD lg) he
          have hstep : ∀ b, over1 lg p q = b → (if b = true then (∃ k, (PyData.bool true : D) = .bool k ∧ (PyData.bool (!k) : D) = .bool (!overt lg ws)) else ((ws.take (j + 1)).any fun q => over1 lg p q) = false) := fun b hb => by
            cases b with
            | true =>
              rw [if_pos rfl]
              refine ⟨true, rfl, ?_⟩
              have : overt lg ws = true := by
                unfold overt
                exact List.any_eq_true.mpr ⟨p, hm, List.any_eq_true.mpr ⟨q, hmq, hb⟩⟩
              rw [this]
            | false =>
              rw [if_neg (by decide), List.take_succ, hq, List.any_append, hj]
              show (false || (over1 lg p q || false)) = false
              rw [hb]
              rfl
          show wpE _ _ _ (some (.d (tmD lg p)) :: some (.d (tmD lg q)) :: [some (.d (logD lg)), some (.d (worldD ws)), some (.d (.list (ws.map (tmD lg)))), none, none]) _
          refine wpE_and (wpE_cmp op_lt ok_lt (nomark _) (wpE_ix (wpE_var 0 rfl (wpE_int ⟨_, rfl, wpE_ix (wpE_var 1 rfl (wpE_int ⟨_, rfl, ⟨_, rfl, ?_⟩⟩))⟩))))
          by_cases hlt : ti lg.entries p.1 < ti lg.entries q.1
          · rw [if_pos (decide_eq_true hlt)]
            refine wpE_one (wpE_cmp op_gt ok_lt (nomark _) (wpE_ix (wpE_var 0 rfl (wpE_int ⟨_, rfl, wpE_ix (wpE_var 1 rfl (wpE_int ⟨_, rfl, ⟨_, rfl, ?_⟩⟩))⟩))))
            refine hstep (decide (ti lg.exits p.2 > ti lg.exits q.2)) ?_
            unfold over1
            rw [decide_eq_true hlt, Bool.true_and]
          · rw [if_neg (show ¬ (decide (ti lg.entries p.1 < ti lg.entries q.1) = true) from fun z => hlt (of_decide_eq_true z))]
            refine ⟨_, rfl, ?_⟩
            refine hstep false ?_
            unfold over1
            rw [decide_eq_false hlt, Bool.false_and]
        · rw [List.length_map, List.take_length] at hj
          rw [List.take_succ, hp, List.any_append, hv]
          show (false || ((ws.any fun q => over1 lg p q) || false)) = false
          rw [hj]
          rfl
      · rw [List.length_map, List.take_length] at hv
        have : overt lg ws = false := hv
        rw [this]
        rfl
end
end K31

set_option Elab.async false
set_option linter.all false
set_option maxRecDepth 100000
set_option maxHeartbeats 1000000
namespace K31
open PySem PySem.Spec L2 DL
section
variable {P : Program} {w : World} {K : PySem.W.Frag} {mg : Str → Option Value} {base : Heap} {Tb : List Addr}
def eL (lg : Log) (ws : World') : List (Int × Int) := ws.map fun p => (ti lg.entries p.1, (p.1 : Int))
def xL (lg : Log) (ws : World') : List (Int × Int) := ws.map fun p => (ti lg.exits p.2, (p.2 : Int))
def OrdPost (lg : Log) (ws : World') (zs : List (Int × Int)) : Prop := ∃ es xs : List (Int × Int), es.Perm (eL lg ws) ∧ SrtO.Srtd SrtO.lexB es ∧ xs.Perm (xL lg ws) ∧ SrtO.Srtd SrtO.lexB xs ∧ zs.Perm ((es.zip xs).map fun p => (p.1.2, p.2.2)) ∧ SrtO.Srtd SrtO.lexB zs
abbrev nOW : List Str := ["log", "world", "entries", "exits", "pair", "first", "second"]
theorem scOW : FnScope nOW ["log", "world"] (defScope sOrdW) := ⟨rfl, rfl, rfl, by decide +kernel, rfl, by decide +kernel, by decide +kernel⟩
abbrev GOrdW (P : Program) (w : World) (K : PySem.W.Frag) (mg : Str → Option Value) (base : Heap) (Tb : List Addr) (f : Addr) (fd : FuncData) : Prop := FnOk P w K mg base CX0 1 f fd ["log", "world"] (spN Tb 0 2 (fun ds => ∃ lg ws, InR lg ws ∧ ws.length < 1000 ∧ ds = [logD lg, worldD ws]) fun ds rs => ∀ lg ws, ds = [logD lg, worldD ws] → InR lg ws → ∃ zs, OrdPost lg ws zs ∧ rs = zs.map pairD)
theorem ok_ordW {f c : Addr} {fd : FuncData} (F : FunC K "ordered_world" "ordered_world" sOrdW f c fd) (m_sorted : mg "sorted" = none) (m_zip : mg "zip" = none) (lg : Log) (ws : World') (hin : InR lg ws) (hlen : ws.length < 1000) :
    FnOk P w K mg base CX0 1 f fd ["log", "world"] (spN Tb 0 2 (fun ds => ds = [logD lg, worldD ws]) fun _ rs => ∃ zs, OrdPost lg ws zs ∧ rs = zs.map pairD) := by
  refine fn_okN3 F scOW (by decide) rfl rfl fun A outer s H E ds hr hl hp => ?_
  subst hp
  show wpS _ _ _ [some (.d (logD lg)), some (.d (worldD ws)), none, none, none, none, none] _
  have hl1 : (ws.map fun p => pairD (pr p)).length < sizeLine := by rw [List.length_map]; exact Nat.lt_trans hlen (by decide)
  refine wpS_set 2 (wpE_callB cr_sortedPO ok_sortP m_sorted boot_sorted2 (wpA_cons (wpE_lc (c := none) 4 rfl (wpI_list (wpE_var 1 rfl ⟨_, rfl, hl1, fun i acc => acc = ((ws.take i).map fun p => (ti lg.entries p.1, (p.1 : Int))).map pairD, rfl, fun i d acc hd hv z H C cl fp => ?_, fun acc hv => ?_⟩)) rfl scOW.nd (blkOk_by (N := nOW) (sc := defScope sOrdW) (by decide +kernel)) rfl))) scOW.nd
  · obtain ⟨p, hp, hm, rfl⟩ := map_get (f := fun p => pairD (pr p)) hd
    obtain ⟨l1, e1, a1, t1⟩ := at_line (hin p hm).1
    show wpE _ _ _ [some (.d (logD lg)), some (.d (worldD ws)), none, none, some (.d (pairD (pr p))), none, none] _
    refine wpE_tup (wpA_cons (wpE_ix (wpE_ix (wpE_ix (wpE_var 0 rfl (wpE_int ⟨_, rfl, wpE_ix (wpE_var 4 rfl (wpE_int ⟨_, rfl, ⟨_, a1, wpE_int ⟨_, rfl, ?_⟩⟩⟩))⟩))))))
    refine wpA_cons (wpE_ix (wpE_var 4 rfl (wpE_int ⟨_, rfl, wpA_nil (r_small rfl ?_)⟩)))
    rw [hv, t1]
    show ((ws.take i).map _).map pairD ++ [pairD (ti lg.entries p.1, (p.1 : Int))] = ((ws.take (i + 1)).map fun p => (ti lg.entries p.1, (p.1 : Int))).map pairD
    rw [List.take_succ, hp, List.map_append, List.map_append]
    rfl
  · rw [hv, List.length_map, List.take_length]
    refine wpA_nil ⟨eL lg ws, rfl, fun es hes hse => ?_⟩
    show wpS _ _ _ [some (.d (logD lg)), some (.d (worldD ws)), some (.d (.list (es.map pairD))), none, none, none, none] _
    refine wpS_set 3 (wpE_callB cr_sortedPO ok_sortP m_sorted boot_sorted2 (wpA_cons (wpE_lc (c := none) 4 rfl (wpI_list (wpE_var 1 rfl ⟨_, rfl, hl1, fun i acc => acc = ((ws.take i).map fun p => (ti lg.exits p.2, (p.2 : Int))).map pairD, rfl, fun i d acc hd hv z H C cl fp => ?_, fun acc hv => ?_⟩)) rfl scOW.nd (blkOk_by (N := nOW) (sc := defScope sOrdW) (by decide +kernel)) rfl))) scOW.nd
    · obtain ⟨p, hp, hm, rfl⟩ := map_get (f := fun p => pairD (pr p)) hd
      obtain ⟨l1, e1, a1, t1⟩ := at_line (hin p hm).2
      show wpE _ _ _ [some (.d (logD lg)), some (.d (worldD ws)), some (.d (.list (es.map pairD))), none, some (.d (pairD (pr p))), none, none] _
      refine wpE_tup (wpA_cons (wpE_ix (wpE_ix (wpE_ix (wpE_var 0 rfl (wpE_int ⟨_, rfl, wpE_ix (wpE_var 4 rfl (wpE_int ⟨_, rfl, ⟨_, a1, wpE_int ⟨_, rfl, ?_⟩⟩⟩))⟩))))))
      refine wpA_cons (wpE_ix (wpE_var 4 rfl (wpE_int ⟨_, rfl, wpA_nil (r_small rfl ?_)⟩)))
      rw [hv, t1]
      show ((ws.take i).map _).map pairD ++ [pairD (ti lg.exits p.2, (p.2 : Int))] = ((ws.take (i + 1)).map fun p => (ti lg.exits p.2, (p.2 : Int))).map pairD
      rw [List.take_succ, hp, List.map_append, List.map_append]
      rfl
    · rw [hv, List.length_map, List.take_length]
      refine wpA_nil ⟨xL lg ws, rfl, fun xs hxs hsx => ?_⟩
      show wpH _ _ _ [some (.d (logD lg)), some (.d (worldD ws)), some (.d (.list (es.map pairD))), some (.d (.list (xs.map pairD))), none, none, none] _
      have hez : (zipD (es.map pairD) (xs.map pairD)).length < sizeLine := by
        unfold zipD
        rw [List.length_map, List.length_zip, List.length_map, List.length_map]
        have : es.length = ws.length := hes.length_eq.trans (List.length_map _)
        exact Nat.lt_of_le_of_lt (Nat.min_le_left _ _) (by rw [this]; exact Nat.lt_trans hlen (by decide))
      have hzg : ∀ (i : Nat) (d1 d2 : D), (zipD (es.map pairD) (xs.map pairD))[i]? = some (.tuple [d1, d2]) → ∃ a b : Int × Int, (es.zip xs)[i]? = some (a, b) ∧ d1 = pairD a ∧ d2 = pairD b := fun i d1 d2 h => by
        unfold zipD at h
        rw [List.getElem?_map, List.zip_map, List.getElem?_map] at h
        cases e : (es.zip xs)[i]? with
        | none => rw [e] at h; cases h
        | some q =>
          rw [e] at h
          cases h
          exact ⟨q.1, q.2, rfl, rfl, rfl⟩
      refine wpH_F (wpF_sorted m_sorted (wpE_lc2 (c := none) 5 6 (by decide) rfl rfl (wpI_zip m_zip (wpA_cons (wpE_var 2 rfl (wpA_cons (wpE_var 3 rfl (wpA_nil ⟨_, _, rfl, hez, fun d hd => ?_, fun i acc => acc = (((es.zip xs).take i).map fun p => (p.1.2, p.2.2)).map pairD, rfl, fun i d1 d2 acc hd hv z H C cl fp => ?_, fun acc hv => ?_⟩)))))) rfl scOW.nd (blkOk_by (N := nOW) (sc := defScope sOrdW) (by decide +kernel)) rfl))
      · unfold zipD at hd
        obtain ⟨q, _, rfl⟩ := List.mem_map.mp hd
        exact ⟨_, _, rfl⟩
      · obtain ⟨a, b, hab, rfl, rfl⟩ := hzg i d1 d2 hd
        show wpE _ _ _ [some (.d (logD lg)), some (.d (worldD ws)), some (.d (.list (es.map pairD))), some (.d (.list (xs.map pairD))), none, some (.d (pairD a)), some (.d (pairD b))] _
        refine wpE_tup (wpA_cons (wpE_ix (wpE_var 5 rfl (wpE_int ⟨_, rfl, ?_⟩))))
        refine wpA_cons (wpE_ix (wpE_var 6 rfl (wpE_int ⟨_, rfl, wpA_nil (r_small rfl ?_)⟩)))
        rw [hv]
        show (((es.zip xs).take i).map _).map pairD ++ [pairD (a.2, b.2)] = (((es.zip xs).take (i + 1)).map fun p => (p.1.2, p.2.2)).map pairD
        rw [List.take_succ, hab, List.map_append, List.map_append]
        rfl
      · have hlz : (zipD (es.map pairD) (xs.map pairD)).length = (es.zip xs).length := by
          unfold zipD
          rw [List.length_map, List.zip_map, List.length_map]
        rw [hv, hlz, List.take_length]
        exact ⟨_, rfl, fun zs hz hsz => ⟨zs, ⟨es, xs, hes, hse, hxs, hsx, hz, hsz⟩, rfl⟩⟩
end
end K31

set_option Elab.async false
set_option linter.all false
set_option maxRecDepth 100000
set_option maxHeartbeats 1000000
namespace K31
open PySem PySem.Spec L2 DL
def inK (o : Option Str) (n : Str) : Bool := match o with
  | none => true
  | some k => decide (n = k)
def fitN (l x : Line) (q : Str × Int × Int) : Bool := (inK l.kind q.1 && inK x.kind q.1) && (decide (q.2.1 ≤ x.time - l.time) && decide (x.time - l.time ≤ q.2.2))
def fitsB (ks : Kinds) (l x : Line) : Bool := platesAgree l.plate x.plate && ks.any (fitN l x)
def gl (lg : Log) (g : Nat) : List Line := if g = 0 then lg.entries else lg.exits
def flO (lg : Log) (g : Nat) : Option Int := if g = 0 then lg.xf else lg.ef
def openN (g : Nat) (l : Line) (f : Int) (q : Str × Int × Int) : Bool := inK l.kind q.1 && ((decide (g = 0) && decide (max f (l.time + q.2.1) ≤ min (l.time + q.2.2) 1000000000)) || (decide (g = 1) && decide (f ≤ l.time - q.2.1)))
def mayL (ks : Kinds) (fo : Option Int) (g : Nat) (l : Line) : Bool := match fo with
  | none => false
  | some f => ks.any (openN g l f)
def mayB (ks : Kinds) (lg : Log) (g n : Nat) : Bool := match (gl lg g)[n]? with
  | none => false
  | some l => mayL ks (flO lg g) g l
theorem look_get : ∀ {ks : Kinds} {i : Nat} {q : Str × Int × Int}, (ks.map (·.1)).Nodup → ks[i]? = some q → look ks q.1 = some q.2
  | [], _, _, _, h => by cases h
  | r :: ks, 0, q, nd, h => by
    cases h
    unfold look
    rw [List.find?_cons]
    have : (r.1 == r.1) = true := beq_self_eq_true _
    rw [this]
    rfl
  | r :: ks, i + 1, q, nd, h => by
    rw [List.map_cons] at nd
    have nd' := List.nodup_cons.mp nd
    have hm : q.1 ∈ ks.map (·.1) := List.mem_map_of_mem (List.mem_of_getElem? (show ks[i]? = some q from h))
    have ne : (r.1 == q.1) = false := by
      rw [beq_eq_false_iff_ne]
      intro z
      exact nd'.1 (by rw [z]; exact hm)
    have ih := look_get (ks := ks) (i := i) nd'.2 h
    unfold look at ih ⊢
    rw [List.find?_cons, ne]
    exact ih
theorem dl_get {ks : Kinds} {i : Nat} {q : Str × Int × Int} (nd : (ks.map (·.1)).Nodup) (h : ks[i]? = some q) : dlook (.str q.1) (ks.map fun k => (.str k.1, .tuple [.int k.2.1, .int k.2.2])) = some (.tuple [.int q.2.1, .int q.2.2]) := by
  rw [dlook_kinds, look_get nd h]
  rfl
theorem key_get {ks : Kinds} {i : Nat} {d : D} (h : ((ks.map (·.1)).map PyData.str)[i]? = some d) : ∃ q, ks[i]? = some q ∧ q ∈ ks ∧ d = .str q.1 := by
  rw [List.map_map, List.getElem?_map] at h
  cases e : ks[i]? with
  | none => rw [e] at h; cases h
  | some q =>
    rw [e] at h
    exact ⟨q, rfl, List.mem_of_getElem? e, (Option.some.inj h).symm⟩
theorem flat_oS (o : Option Str) : flatD (oS o) = true := by cases o <;> rfl
theorem in_eq (o : Option Str) (n : Str) : ([PyData.none, PyData.str n].any fun y => eqF y (oS o)) = inK o n := by
  cases o with
  | none => rfl
  | some k =>
    show (false || ((n == k) || false)) = decide (n = k)
    rw [Bool.false_or, Bool.or_false]
    by_cases e : n = k
    · rw [decide_eq_true e, e]; exact beq_self_eq_true k
    · rw [decide_eq_false e]; exact beq_eq_false_iff_ne.mpr e
section
variable {P : Program} {w : World} {K : PySem.W.Frag} {mg : Str → Option Value} {base : Heap} {Tb : List Addr}
abbrev nFi : List Str := ["kinds", "one", "other", "name"]
theorem scFi : FnScope nFi ["kinds", "one", "other"] (defScope sFits) := ⟨rfl, rfl, rfl, by decide +kernel, rfl, by decide +kernel, by decide +kernel⟩
abbrev GFits (P : Program) (w : World) (K : PySem.W.Frag) (mg : Str → Option Value) (base : Heap) (Tb : List Addr) (f : Addr) (fd : FuncData) : Prop := ∀ (ks : Kinds) (l x : Line), (ks.map (·.1)).Nodup → FnOk P w K mg base CX0 1 f fd ["kinds", "one", "other"] (FnV Tb [kindsD ks, lineD l, lineD x] (.bool (fitsB ks l x)))
theorem ok_fits {f c : Addr} {fd : FuncData} (F : FunC K "_law_fits" "_law_fits" sFits f c fd) : GFits P w K mg base Tb f fd := by
  intro ks l x hnd
  refine fn_ok F scFi (by decide) rfl fun A outer s H E ds hr hl hp => ?_
  subst hp
  have hu : (A.deeper (PyProof.Rows.envOfC "_law_fits" (defScope sFits) s.heap.objs.size f (.ref c))).units + 1 < cLine := by have := hr.un; omega
  show wpSs _ _ _ [some (.d (kindsD ks)), some (.d (lineD l)), some (.d (lineD x)), none] _
  refine wpSs_cons (wpS_if (wpT_mono (P := fun k => k = !platesAgree l.plate x.plate) (wpT_W ?_) fun k hk => ?_))
  · refine wpW_and (wpT_cmp op_notN ok_isnot (nomark _) (wpE_ix (wpE_var 1 rfl (wpE_int ⟨_, rfl, wpE_none ?_⟩))))
    obtain ⟨t1, k1, pl1⟩ := l
    obtain ⟨t2, k2, pl2⟩ := x
    cases pl1 with
    | none => exact ⟨false, rfl, iteF rfl⟩
    | some a =>
      refine ⟨true, rfl, iteT (wpW_and (wpT_cmp op_notN ok_isnot (nomark _) (wpE_ix (wpE_var 2 rfl (wpE_int ⟨_, rfl, wpE_none ?_⟩)))))⟩
      cases pl2 with
      | none => exact ⟨false, rfl, iteF rfl⟩
      | some b => exact ⟨true, rfl, iteT (wpW_and1 (wpT_cmp (op_neDD hr.units) ok_ne (nomark _) (wpE_ix (wpE_var 1 rfl (wpE_int ⟨_, rfl, wpE_ix (wpE_var 2 rfl (wpE_int ⟨_, rfl, r_eqS ⟨_, rfl, rfl⟩⟩))⟩)))))⟩
  subst hk
  cases hpa : platesAgree l.plate x.plate with
  | false =>
    refine iteT (wpSs_one (wpS_ret (wpE_bool ?_)))
    show PyData.bool false = PyData.bool (fitsB ks l x)
    unfold fitsB
    rw [hpa]
    rfl
  | true =>
  refine iteF (wpSs_nil ?_)
  have hfb : fitsB ks l x = ks.any (fitN l x) := by
    unfold fitsB
    rw [hpa]
    rfl
  show wpSs _ _ _ [some (.d (kindsD ks)), some (.d (lineD l)), some (.d (lineD x)), none] _
  refine wpSs_cons (wpS_forD (ks := ks.map fun k => (.str k.1, .tuple [.int k.2.1, .int k.2.2])) 0 rfl ?_ PassesOwn.never rfl)
  refine ⟨fun i δ' => (ks.take i).any (fitN l x) = false ∧ ∃ s3, δ' = [some (.d (kindsD ks)), some (.d (lineD l)), some (.d (lineD x)), s3], ⟨rfl, _, rfl⟩, ?_, ?_⟩
  · rintro i d δ' hd ⟨hv, s3, rfl⟩
    rw [keys_kinds] at hd
    obtain ⟨q, hq, hm, rfl⟩ := key_get hd
    refine wpG_name 3 ?_ scFi.nd
    show wpSs _ _ _ [some (.d (kindsD ks)), some (.d (lineD l)), some (.d (lineD x)), some (.d (.str q.1))] _
    have hd1 := dl_get hnd hq
    have next : fitN l x q = false → (ks.take (i + 1)).any (fitN l x) = false := fun z => by
      rw [List.take_succ, hq, List.any_append, hv]
      show (false || (fitN l x q || false)) = false
      rw [z]
      rfl
    refine wpSs_one (wpS_if (wpT_mono (P := fun k => k = (inK l.kind q.1 && inK x.kind q.1)) (wpT_W ?_) fun k hk => ?_))
    · refine wpW_and (wpT_cmp op_in_seq (ok_in false) rfl (wpE_ix (wpE_var 1 rfl (wpE_int ⟨_, rfl, ?_⟩))))
      repeat (first | ((with_reducible show wpA _ _ (_ :: _) _ _); refine wpA_cons ?_) | with_reducible refine wpA_nil ?_ | with_reducible refine wpE_int ?_ | with_reducible refine wpE_none ?_ | with_reducible refine wpE_bool ?_ | with_reducible refine wpE_str ?_ | with_reducible refine r_addI ?_ | with_reducible refine r_subI ?_ | with_reducible refine r_small (by with_unfolding_all rfl) ?_ | with_reducible refine r_addL (by with_unfolding_all rfl) ?_ | ((with_reducible show wpE _ _ (.Name _ _) _ _); first | refine wpE_var 0 rfl ?_ | refine wpE_var 1 rfl ?_ | refine wpE_var 2 rfl ?_ | refine wpE_var 3 rfl ?_ | refine wpE_var 4 rfl ?_ | refine wpE_var 5 rfl ?_ | refine wpE_var 6 rfl ?_ | refine wpE_var 7 rfl ?_ | refine wpE_var 8 rfl ?_ | refine wpE_var 9 rfl ?_ | refine wpE_var 10 rfl ?_ | refine wpE_var 11 rfl ?_ | refine wpE_var 12 rfl ?_ | refine wpE_var 13 rfl ?_) | ((with_reducible show wpE _ _ (.Tuple _ _ _) _ _); refine wpE_tup ?_) | ((with_reducible show wpE _ _ (.List _ _) _ _); refine wpE_lst ?_) | ((with_reducible show wpE _ _ (.BinOp _ .Add _ _) _ _); refine wpE_bin op_addD ok_add ?_) | ((with_reducible show wpE _ _ (.BinOp _ .Sub _ _) _ _); refine wpE_bin op_sub ok_sub ?_) | ((with_reducible show wpE _ _ (.Dict [_, _] _ _) _ _); refine wpE_disp2 ?_) | ((with_reducible show wpE _ _ (.Dict [_] _ _) _ _); refine wpE_disp1 ?_) | with_reducible refine r_d2 (by decide +kernel) ?_ | with_reducible refine r_d1 ?_)
      refine ⟨⟨flat_oS _, rfl⟩, _, rfl, ?_⟩
      rw [show ([PyData.none, PyData.str q.1].any fun y => eqF y (oS l.kind)) = inK l.kind q.1 from in_eq _ _]
      cases inK l.kind q.1 with
      | false => exact iteF rfl
      | true =>
        refine iteT (wpW_and1 (wpT_cmp op_in_seq (ok_in false) rfl (wpE_ix (wpE_var 2 rfl (wpE_int ⟨_, rfl, ?_⟩)))))
        repeat (first | ((with_reducible show wpA _ _ (_ :: _) _ _); refine wpA_cons ?_) | with_reducible refine wpA_nil ?_ | with_reducible refine wpE_int ?_ | with_reducible refine wpE_none ?_ | with_reducible refine wpE_bool ?_ | with_reducible refine wpE_str ?_ | with_reducible refine r_addI ?_ | with_reducible refine r_subI ?_ | with_reducible refine r_small (by with_unfolding_all rfl) ?_ | with_reducible refine r_addL (by with_unfolding_all rfl) ?_ | ((with_reducible show wpE _ _ (.Name _ _) _ _); first | refine wpE_var 0 rfl ?_ | refine wpE_var 1 rfl ?_ | refine wpE_var 2 rfl ?_ | refine wpE_var 3 rfl ?_ | refine wpE_var 4 rfl ?_ | refine wpE_var 5 rfl ?_ | refine wpE_var 6 rfl ?_ | refine wpE_var 7 rfl ?_ | refine wpE_var 8 rfl ?_ | refine wpE_var 9 rfl ?_ | refine wpE_var 10 rfl ?_ | refine wpE_var 11 rfl ?_ | refine wpE_var 12 rfl ?_ | refine wpE_var 13 rfl ?_) | ((with_reducible show wpE _ _ (.Tuple _ _ _) _ _); refine wpE_tup ?_) | ((with_reducible show wpE _ _ (.List _ _) _ _); refine wpE_lst ?_) | ((with_reducible show wpE _ _ (.BinOp _ .Add _ _) _ _); refine wpE_bin op_addD ok_add ?_) | ((with_reducible show wpE _ _ (.BinOp _ .Sub _ _) _ _); refine wpE_bin op_sub ok_sub ?_) | ((with_reducible show wpE _ _ (.Dict [_, _] _ _) _ _); refine wpE_disp2 ?_) | ((with_reducible show wpE _ _ (.Dict [_] _ _) _ _); refine wpE_disp1 ?_) | with_reducible refine r_d2 (by decide +kernel) ?_ | with_reducible refine r_d1 ?_)
        refine ⟨⟨flat_oS _, rfl⟩, _, rfl, ?_⟩
        exact in_eq _ _
    subst hk
    cases hin : (inK l.kind q.1 && inK x.kind q.1) with
    | false =>
      refine iteF (wpSs_nil ⟨next ?_, _, rfl⟩)
      unfold fitN
      rw [hin]
      rfl
    | true =>
    have hfn : fitN l x q = (decide (q.2.1 ≤ x.time - l.time) && decide (x.time - l.time ≤ q.2.2)) := by
      unfold fitN
      rw [hin]
      rfl
    refine iteT (wpSs_one (wpS_if (wpT_mono (P := fun k => k = fitN l x q) ?_ fun k hk => ?_)))
    · rw [hfn]
      refine wpT_chain op_le op_le ok_lt ok_lt (wpE_ix (wpE_dix hu (wpE_var 0 rfl (wpE_var 3 rfl ⟨_, hd1, ⟨.inr q.1, rfl⟩, wpE_int ⟨_, rfl, ?_⟩⟩))))
      refine wpE_bin op_sub ok_sub (wpE_ix (wpE_var 2 rfl (wpE_int ⟨_, rfl, wpE_ix (wpE_var 1 rfl (wpE_int ⟨_, rfl, r_subI (r_lt ⟨_, rfl, ?_⟩)⟩))⟩)))
      cases decide (q.2.1 ≤ x.time - l.time) with
      | false => exact iteF rfl
      | true => exact iteT (wpE_ix (wpE_dix hu (wpE_var 0 rfl (wpE_var 3 rfl ⟨_, hd1, ⟨.inr q.1, rfl⟩, wpE_int ⟨_, rfl, r_lt ⟨_, rfl, rfl⟩⟩⟩))))
    subst hk
    cases htt : fitN l x q with
    | true =>
      refine iteT (wpSs_one (wpS_ret (wpE_bool ?_)))
      show PyData.bool true = PyData.bool (fitsB ks l x)
      rw [hfb, List.any_eq_true.mpr ⟨q, hm, htt⟩]
    | false => exact iteF (wpSs_nil ⟨next htt, _, rfl⟩)
  · rintro δ' ⟨hv, s3, rfl⟩
    rw [List.length_map, List.take_length] at hv
    refine wpSs_one (wpS_ret (wpE_bool ?_))
    show PyData.bool false = PyData.bool (fitsB ks l x)
    rw [hfb, hv]
end
end K31

set_option Elab.async false
set_option linter.all false
set_option maxRecDepth 100000
set_option maxHeartbeats 1000000
namespace K31
open PySem PySem.Spec L2 DL
theorem p9' : ((10 : Int) ^ ((9 : Int)).toNat) = 1000000000 := by decide +kernel
section
variable {P : Program} {w : World} {K : PySem.W.Frag} {mg : Str → Option Value} {base : Heap} {Tb : List Addr}
abbrev nMa : List Str := ["kinds", "log", "gate", "number", "line", "floor", "name", "shortest", "longest", "latest"]
theorem scMa : FnScope nMa ["kinds", "log", "gate", "number"] (defScope sMay) := ⟨rfl, rfl, rfl, by decide +kernel, rfl, by decide +kernel, by decide +kernel⟩
abbrev GMay (P : Program) (w : World) (K : PySem.W.Frag) (mg : Str → Option Value) (base : Heap) (Tb : List Addr) (f : Addr) (fd : FuncData) : Prop := ∀ (ks : Kinds) (lg : Log) (g n : Nat), (ks.map (·.1)).Nodup → g < 2 → n < (gl lg g).length → FnOk P w K mg base CX0 1 f fd ["kinds", "log", "gate", "number"] (FnV Tb [kindsD ks, logD lg, .int (g : Nat), .int (n : Nat)] (.bool (mayB ks lg g n)))
theorem ok_may {f c : Addr} {fd : FuncData} (F : FunC K "_law_may_be_open" "_law_may_be_open" sMay f c fd) (m_min : mg "min" = none) (m_max : mg "max" = none) : GMay P w K mg base Tb f fd := by
  intro ks lg g n hnd hg hn
  refine fn_ok F scMa (by decide) rfl fun A outer s H E ds hr hl hp => ?_
  subst hp
  have hu : (A.deeper (PyProof.Rows.envOfC "_law_may_be_open" (defScope sMay) s.heap.objs.size f (.ref c))).units + 1 < cLine := by have := hr.un; omega
  obtain ⟨l, hl⟩ : ∃ l, (gl lg g)[n]? = some l := ⟨_, List.getElem?_eq_getElem hn⟩
  have hmb : mayB ks lg g n = mayL ks (flO lg g) g l := by
    unfold mayB
    rw [hl]
  show wpSs _ _ _ [some (.d (kindsD ks)), some (.d (logD lg)), some (.d (.int (g : Nat))), some (.d (.int (n : Nat))), none, none, none, none, none, none] _
  have hal : atI ((gl lg g).map lineD) (n : Nat) = some (lineD l) := at_nat (by rw [List.getElem?_map, hl]; rfl)
  refine wpSs_cons (wpS_set 4 (wpE_mono (P := fun d => d = lineD l) (wpE_ix (wpE_ix (wpE_var 1 rfl (wpE_var 2 rfl ⟨.list ((gl lg g).map lineD), ?_, wpE_var 3 rfl ⟨_, hal, rfl⟩⟩)))) fun d hd => ?_) scMa.nd)
  · have : g = 0 ∨ g = 1 := by omega
    rcases this with rfl | rfl <;> rfl
  subst hd
  show wpSs _ _ _ [some (.d (kindsD ks)), some (.d (logD lg)), some (.d (.int (g : Nat))), some (.d (.int (n : Nat))), some (.d (lineD l)), none, none, none, none, none] _
  refine wpSs_cons (wpS_set 5 (wpE_mono (P := fun d => d = floorD (flO lg g)) (wpE_ix (wpE_var 1 rfl (wpE_bin op_sub ok_sub (wpE_int (wpE_var 2 rfl (r_subI ⟨_, ?_, rfl⟩)))))) fun d hd => ?_) scMa.nd)
  · have : g = 0 ∨ g = 1 := by omega
    rcases this with rfl | rfl <;> rfl
  subst hd
  show wpSs _ _ _ [some (.d (kindsD ks)), some (.d (logD lg)), some (.d (.int (g : Nat))), some (.d (.int (n : Nat))), some (.d (lineD l)), some (.d (floorD (flO lg g))), none, none, none, none] _
  refine wpSs_cons (wpS_if (wpT_cmp (op_eqDD hr.units) ok_eq (nomark _) (wpE_var 5 rfl (wpE_str ?_))))
  cases hfo : flO lg g with
  | none =>
    refine ⟨true, rfl, iteT (wpSs_one (wpS_ret (wpE_bool ?_)))⟩
    show PyData.bool false = PyData.bool (mayB ks lg g n)
    rw [hmb, hfo]
    rfl
  | some fl =>
  have hfb : mayB ks lg g n = ks.any (openN g l fl) := by
    rw [hmb, hfo]
    rfl
  refine ⟨false, rfl, iteF (wpSs_nil ?_)⟩
  show wpSs _ _ _ [some (.d (kindsD ks)), some (.d (logD lg)), some (.d (.int (g : Nat))), some (.d (.int (n : Nat))), some (.d (lineD l)), some (.d (.int fl)), none, none, none, none] _
  refine wpSs_cons (wpS_forD (ks := ks.map fun k => (.str k.1, .tuple [.int k.2.1, .int k.2.2])) 0 rfl ?_ PassesOwn.never rfl)
  refine ⟨fun i δ' => (ks.take i).any (openN g l fl) = false ∧ ∃ s6 s7 s8 s9, δ' = [some (.d (kindsD ks)), some (.d (logD lg)), some (.d (.int (g : Nat))), some (.d (.int (n : Nat))), some (.d (lineD l)), some (.d (.int fl)), s6, s7, s8, s9], ⟨rfl, _, _, _, _, rfl⟩, ?_, ?_⟩
  · rintro i d δ' hd ⟨hv, s6, s7, s8, s9, rfl⟩
    rw [keys_kinds] at hd
    obtain ⟨q, hq, hm, rfl⟩ := key_get hd
    refine wpG_name 6 ?_ scMa.nd
    show wpSs _ _ _ [some (.d (kindsD ks)), some (.d (logD lg)), some (.d (.int (g : Nat))), some (.d (.int (n : Nat))), some (.d (lineD l)), some (.d (.int fl)), some (.d (.str q.1)), s7, s8, s9] _
    have hd1 := dl_get hnd hq
    have next : openN g l fl q = false → (ks.take (i + 1)).any (openN g l fl) = false := fun z => by
      rw [List.take_succ, hq, List.any_append, hv]
      show (false || (openN g l fl q || false)) = false
      rw [z]
      rfl
    have yes : openN g l fl q = true → (PyData.bool true : D) = .bool (mayB ks lg g n) := fun z => by
      rw [hfb, List.any_eq_true.mpr ⟨q, hm, z⟩]
    refine wpSs_one (wpS_if (wpT_mono (P := fun k => k = inK l.kind q.1) (wpT_cmp op_in_seq (ok_in false) rfl (wpE_ix (wpE_var 4 rfl (wpE_int ⟨_, rfl, ?_⟩)))) fun k hk => ?_))
    · repeat (first | ((with_reducible show wpA _ _ (_ :: _) _ _); refine wpA_cons ?_) | with_reducible refine wpA_nil ?_ | with_reducible refine wpE_int ?_ | with_reducible refine wpE_none ?_ | with_reducible refine wpE_bool ?_ | with_reducible refine wpE_str ?_ | with_reducible refine r_addI ?_ | with_reducible refine r_subI ?_ | with_reducible refine r_small (by with_unfolding_all rfl) ?_ | with_reducible refine r_addL (by with_unfolding_all rfl) ?_ | ((with_reducible show wpE _ _ (.Name _ _) _ _); first | refine wpE_var 0 rfl ?_ | refine wpE_var 1 rfl ?_ | refine wpE_var 2 rfl ?_ | refine wpE_var 3 rfl ?_ | refine wpE_var 4 rfl ?_ | refine wpE_var 5 rfl ?_ | refine wpE_var 6 rfl ?_ | refine wpE_var 7 rfl ?_ | refine wpE_var 8 rfl ?_ | refine wpE_var 9 rfl ?_ | refine wpE_var 10 rfl ?_ | refine wpE_var 11 rfl ?_ | refine wpE_var 12 rfl ?_ | refine wpE_var 13 rfl ?_) | ((with_reducible show wpE _ _ (.Tuple _ _ _) _ _); refine wpE_tup ?_) | ((with_reducible show wpE _ _ (.List _ _) _ _); refine wpE_lst ?_) | ((with_reducible show wpE _ _ (.BinOp _ .Add _ _) _ _); refine wpE_bin op_addD ok_add ?_) | ((with_reducible show wpE _ _ (.BinOp _ .Sub _ _) _ _); refine wpE_bin op_sub ok_sub ?_) | ((with_reducible show wpE _ _ (.Dict [_, _] _ _) _ _); refine wpE_disp2 ?_) | ((with_reducible show wpE _ _ (.Dict [_] _ _) _ _); refine wpE_disp1 ?_) | with_reducible refine r_d2 (by decide +kernel) ?_ | with_reducible refine r_d1 ?_)
      refine ⟨⟨flat_oS _, rfl⟩, _, rfl, ?_⟩
      exact in_eq _ _
    subst hk
    cases hin : inK l.kind q.1 with
    | false =>
      refine iteF (wpSs_nil ⟨next ?_, _, _, _, _, rfl⟩)
      unfold openN
      rw [hin]
      rfl
    | true =>
    have hop : openN g l fl q = ((decide (g = 0) && decide (max fl (l.time + q.2.1) ≤ min (l.time + q.2.2) 1000000000)) || (decide (g = 1) && decide (fl ≤ l.time - q.2.1))) := by
      unfold openN
      rw [hin, Bool.true_and]
    refine iteT (wpSs_cons (wpS_unp (wpE_dix hu (wpE_var 0 rfl (wpE_var 6 rfl ⟨_, hd1, ⟨.inr q.1, rfl⟩, ?_⟩)))))
    refine wpG_tup (js := [7, 8]) (pgs_cons (pg_name (i := 7) scMa.nd rfl (.inl rfl)) (pgs_cons (pg_name (i := 8) scMa.nd rfl (.inl rfl)) pgs_nil)) ⟨_, rfl, rfl, ?_⟩ rfl
    show wpSs _ _ _ [some (.d (kindsD ks)), some (.d (logD lg)), some (.d (.int (g : Nat))), some (.d (.int (n : Nat))), some (.d (lineD l)), some (.d (.int fl)), some (.d (.str q.1)), some (.d (.int q.2.1)), some (.d (.int q.2.2)), s9] _
    refine wpSs_cons (wpS_set 9 (wpE_callB (call_min2 rfl) ok_min m_min PyProof.Rows.boot_min (wpA_cons (wpE_bin op_addD ok_add (wpE_ix (wpE_var 4 rfl (wpE_int ⟨_, rfl, wpE_var 8 rfl (r_addI ?_)⟩)))))) scMa.nd)
    refine wpA_cons (wpE_bin op_pow ok_pow ?_)
    repeat (first | ((with_reducible show wpA _ _ (_ :: _) _ _); refine wpA_cons ?_) | with_reducible refine wpA_nil ?_ | with_reducible refine wpE_int ?_ | with_reducible refine wpE_none ?_ | with_reducible refine wpE_bool ?_ | with_reducible refine wpE_str ?_ | with_reducible refine r_addI ?_ | with_reducible refine r_subI ?_ | with_reducible refine r_small (by with_unfolding_all rfl) ?_ | with_reducible refine r_addL (by with_unfolding_all rfl) ?_ | ((with_reducible show wpE _ _ (.Name _ _) _ _); first | refine wpE_var 0 rfl ?_ | refine wpE_var 1 rfl ?_ | refine wpE_var 2 rfl ?_ | refine wpE_var 3 rfl ?_ | refine wpE_var 4 rfl ?_ | refine wpE_var 5 rfl ?_ | refine wpE_var 6 rfl ?_ | refine wpE_var 7 rfl ?_ | refine wpE_var 8 rfl ?_ | refine wpE_var 9 rfl ?_ | refine wpE_var 10 rfl ?_ | refine wpE_var 11 rfl ?_ | refine wpE_var 12 rfl ?_ | refine wpE_var 13 rfl ?_) | ((with_reducible show wpE _ _ (.Tuple _ _ _) _ _); refine wpE_tup ?_) | ((with_reducible show wpE _ _ (.List _ _) _ _); refine wpE_lst ?_) | ((with_reducible show wpE _ _ (.BinOp _ .Add _ _) _ _); refine wpE_bin op_addD ok_add ?_) | ((with_reducible show wpE _ _ (.BinOp _ .Sub _ _) _ _); refine wpE_bin op_sub ok_sub ?_) | ((with_reducible show wpE _ _ (.Dict [_, _] _ _) _ _); refine wpE_disp2 ?_) | ((with_reducible show wpE _ _ (.Dict [_] _ _) _ _); refine wpE_disp1 ?_) | with_reducible refine r_d2 (by decide +kernel) ?_ | with_reducible refine r_d1 ?_)
    refine ⟨⟨by decide, by decide, by decide⟩, ?_⟩
    rw [p9']
    refine wpA_nil (r_min ?_)
    show wpSs _ _ _ [some (.d (kindsD ks)), some (.d (logD lg)), some (.d (.int (g : Nat))), some (.d (.int (n : Nat))), some (.d (lineD l)), some (.d (.int fl)), some (.d (.str q.1)), some (.d (.int q.2.1)), some (.d (.int q.2.2)), some (.d (.int (min (l.time + q.2.2) 1000000000)))] _
    have hg01 : g = 0 ∨ g = 1 := by omega
    rcases hg01 with rfl | rfl
    · refine wpSs_cons (wpS_if (wpT_mono (P := fun k => k = openN 0 l fl q) (wpT_W ?_) fun k hk => ?_))
      · refine wpW_and (wpT_cmp (op_eqDD hr.units) ok_eq (nomark _) (wpE_var 2 rfl (wpE_int ⟨true, rfl, iteT ?_⟩)))
        refine wpW_and1 (wpT_cmp op_le ok_lt (nomark _) (wpE_callB (call_max2 rfl) ok_max m_max PyProof.Rows.boot_max (wpA_cons (wpE_var 5 rfl ?_))))
        refine wpA_cons (wpE_bin op_addD ok_add (wpE_ix (wpE_var 4 rfl (wpE_int ⟨_, rfl, ?_⟩))))
        refine wpE_var 7 rfl (r_addI (wpA_nil (r_max ?_)))
        refine wpE_var 9 rfl (r_lt ⟨_, rfl, ?_⟩)
        rw [hop]
        show _ = ((true && _) || (false && _))
        rw [Bool.true_and, Bool.false_and, Bool.or_false]
      subst hk
      cases htt : openN 0 l fl q with
      | true => exact iteT (wpSs_one (wpS_ret (wpE_bool (yes htt))))
      | false =>
        refine iteF (wpSs_nil ?_)
        refine wpSs_one (wpS_if (wpT_W (wpW_and (wpT_cmp (op_eqDD hr.units) ok_eq (nomark _) (wpE_var 2 rfl (wpE_int ⟨false, rfl, iteF ?_⟩))))))
        exact iteF (wpSs_nil ⟨next htt, _, _, _, _, rfl⟩)
    · refine wpSs_cons (wpS_if (wpT_W (wpW_and (wpT_cmp (op_eqDD hr.units) ok_eq (nomark _) (wpE_var 2 rfl (wpE_int ⟨false, rfl, iteF ?_⟩))))))
      refine iteF (wpSs_nil ?_)
      refine wpSs_one (wpS_if (wpT_mono (P := fun k => k = openN 1 l fl q) (wpT_W ?_) fun k hk => ?_))
      · refine wpW_and (wpT_cmp (op_eqDD hr.units) ok_eq (nomark _) (wpE_var 2 rfl (wpE_int ⟨true, rfl, iteT ?_⟩)))
        refine wpW_and1 (wpT_cmp op_ge ok_lt (nomark _) (wpE_bin op_sub ok_sub (wpE_ix (wpE_var 4 rfl (wpE_int ⟨_, rfl, ?_⟩)))))
        refine wpE_var 7 rfl (r_subI ?_)
        refine wpE_var 5 rfl (r_lt ⟨_, rfl, ?_⟩)
        rw [hop]
        show _ = ((false && _) || (true && _))
        rw [Bool.true_and, Bool.false_and, Bool.false_or]
      subst hk
      cases htt : openN 1 l fl q with
      | true => exact iteT (wpSs_one (wpS_ret (wpE_bool (yes htt))))
      | false => exact iteF (wpSs_nil ⟨next htt, _, _, _, _, rfl⟩)
  · rintro δ' ⟨hv, s6, s7, s8, s9, rfl⟩
    rw [List.length_map, List.take_length] at hv
    refine wpSs_one (wpS_ret (wpE_bool ?_))
    show PyData.bool false = PyData.bool (mayB ks lg g n)
    rw [hfb, hv]
end
end K31

set_option Elab.async false
set_option linter.all false
set_option maxRecDepth 100000
set_option maxHeartbeats 1000000
namespace K31
open PySem PySem.Spec L2 DL
section
variable {P : Program} {w : World} {K : PySem.W.Frag} {mg : Str → Option Value} {base : Heap} {Tb : List Addr}
/-! ### picks, kinds, lines -/
theorem scPick : FnScope ["feed", "choices"] ["feed", "choices"] (defScope sPick) := ⟨rfl, rfl, rfl, by decide +kernel, rfl, by decide +kernel, by decide +kernel⟩
abbrev GTake (P : Program) (w : World) (K : PySem.W.Frag) (mg : Str → Option Value) (base : Heap) (Tb : List Addr) (f : Addr) (fd : FuncData) : Prop := FnOk P w K mg base CX0 1 f fd ["feed", "size"] (spD Tb 1 1 preT postT)
abbrev GPick (P : Program) (w : World) (K : PySem.W.Frag) (mg : Str → Option Value) (base : Heap) (Tb : List Addr) (f : Addr) (fd : FuncData) : Prop := FnOk P w K mg base CX0 2 f fd ["feed", "choices"] (spD Tb 1 1 preP postP)
theorem ok_pick {f c : Addr} {fd : FuncData} (F : FunC K "_law_pick" "_law_pick" sPick f c fd) (m_len : mg "len" = none)
    {fT : Addr} {fdT : FuncData} (GT : GTake P w K mg base Tb fT fdT) (gT : mg "_law_take" = some (.ref fT)) (kT : PySem.W.keepIn K (.ref fT) = true) (bT : Binds K fdT ["feed", "size"] []) :
    GPick P w K mg base Tb f fd := by
  refine fn_ok F scPick (by decide) rfl fun A outer s H E ds hr hl hp => ?_
  obtain ⟨xs, rfl, h0, h1⟩ := hp
  refine wpSs_one (wpS_ret (wpE_ix (wpE_var 1 rfl ?_)))
  refine wpE_take 0 GT hr gT kT bT rfl ?_
  refine wpE_callB call_lenX ok_len m_len boot_len' (wpA_cons (wpE_var 1 rfl (wpA_nil ⟨(fun _ z => nomatch z), ?_⟩)))
  have hp : 0 < xs.length := List.length_pos_iff.mpr h0
  refine ⟨_, rfl, by omega, by omega, fun z z0 z1 => ?_⟩
  obtain ⟨d, e1, e2⟩ := pick_get z0 z1
  exact ⟨d, e1, xs, rfl, e2⟩
theorem r_pick {xs : List D} {P : D → Prop} (h0 : xs.isEmpty = false) (h1 : Nat.ble (xs.length + 1) 1073741824 = true) (h : ∀ z ∈ xs, P z) : ∃ ys : List D, (.list xs : D) = .list ys ∧ ys ≠ [] ∧ ys.length < 1073741824 ∧ ∀ z ∈ ys, P z :=
  ⟨xs, rfl, (fun e => by rw [e] at h0; cases h0), Nat.le_of_ble_eq_true h1, h⟩
def knm : List Str := ["bus", "car", "van"]
structure GoodK (ks : Kinds) : Prop where
  ne : ks ≠ []
  len : ks.length ≤ 3
  nd : (ks.map (·.1)).Nodup
  nm : ∀ p ∈ ks, p.1 ∈ knm
  tv : ∀ p ∈ ks, 0 ≤ p.2.1 ∧ p.2.1 ≤ p.2.2 ∧ p.2.2 ≤ 20
def kk (ks : Kinds) : List (Key × D) := ks.map fun q => (.inr q.1, .tuple [.int q.2.1, .int q.2.2])
theorem asD_kk (ks : Kinds) : asD (kk ks) = ks.map fun k => ((.str k.1 : D), (.tuple [.int k.2.1, .int k.2.2] : D)) := by
  unfold asD kk
  rw [List.map_map]
  rfl
theorem kk_any (x : Str) : ∀ ks : Kinds, ((kk ks).any fun kv => decide (kv.1 = .inr x)) = ks.any fun kv => decide (kv.1 = x)
  | [] => rfl
  | q :: r => by
    have ih := kk_any x r
    unfold kk at ih ⊢
    rw [List.map_cons, List.any_cons, List.any_cons, ih]
    congr 1
    exact decide_eq_decide.mpr ⟨fun h => Sum.inr.inj h, fun h => by rw [h]⟩
theorem kk_put {ks : Kinds} {x : Str} {v : Int × Int} (h : x ∉ ks.map (·.1)) : putA (kk ks) (.inr x) (.tuple [.int v.1, .int v.2]) = kk (ks ++ [(x, v)]) := by
  unfold putA
  rw [kk_any]
  have : (ks.any fun kv => decide (kv.1 = x)) = false := by
    rw [List.any_eq_false]
    intro p hp e
    exact h (by rw [← of_decide_eq_true e]; exact List.mem_map_of_mem hp)
  rw [this]
  show kk ks ++ _ = _
  unfold kk
  rw [List.map_append]
  rfl
theorem knm_nodup : knm.Nodup := by decide +kernel
theorem knm_new {i : Nat} {x : Str} (h : knm[i]? = some x) : x ∉ knm.take i := by
  have hi := (List.getElem?_eq_some_iff.mp h).1
  have : i = 0 ∨ i = 1 ∨ i = 2 := by
    have : knm.length = 3 := rfl
    omega
  rcases this with rfl | rfl | rfl <;> cases h <;> decide +kernel
abbrev nKinds : List Str := ["feed", "table", "name", "shortest"]
theorem scKinds : FnScope nKinds ["feed"] (defScope sKinds) := ⟨rfl, rfl, rfl, by decide +kernel, rfl, by decide +kernel, by decide +kernel⟩
abbrev GKinds (P : Program) (w : World) (K : PySem.W.Frag) (mg : Str → Option Value) (base : Heap) (Tb : List Addr) (f : Addr) (fd : FuncData) : Prop := FnOk P w K mg base CX0 2 f fd ["feed"] (spD Tb 1 0 (fun ds => ds = []) fun _ d => ∃ ks : Kinds, d = kindsD ks ∧ GoodK ks)
theorem ok_kinds {f c : Addr} {fd : FuncData} (F : FunC K "_law_kinds" "_law_kinds" sKinds f c fd)
    {fT : Addr} {fdT : FuncData} (GT : GTake P w K mg base Tb fT fdT) (gT : mg "_law_take" = some (.ref fT)) (kT : PySem.W.keepIn K (.ref fT) = true) (bT : Binds K fdT ["feed", "size"] []) :
    GKinds P w K mg base Tb f fd := by
  refine fn_ok F scKinds (by decide) rfl fun A outer s H E ds hr hl hp => ?_
  subst hp
  have hu : (A.deeper (PyProof.Rows.envOfC "_law_kinds" (defScope sKinds) s.heap.objs.size f (.ref c))).units + 1 < cLine := by have := hr.un; omega
  show wpSs _ _ _ [some (.own .feed), none, none, none] _
  refine wpSs_cons (wpS_newD 1 ?_ scKinds.nd)
  show wpSs _ _ _ [some (.own .feed), some (.own (.dic (asD (kk [])))), none, none] _
  refine wpSs_cons (wpS_for (wpI_list (wpE_takeL ?_)) PassesOwn.never rfl)
  repeat (first | ((with_reducible show wpA _ _ (_ :: _) _ _); refine wpA_cons ?_) | with_reducible refine wpA_nil ?_ | with_reducible refine wpE_int ?_ | with_reducible refine wpE_none ?_ | with_reducible refine wpE_bool ?_ | with_reducible refine wpE_str ?_ | with_reducible refine r_addI ?_ | with_reducible refine r_subI ?_ | with_reducible refine r_small (by with_unfolding_all rfl) ?_ | with_reducible refine r_addL (by with_unfolding_all rfl) ?_ | ((with_reducible show wpE _ _ (.Name _ _) _ _); first | refine wpE_var 0 rfl ?_ | refine wpE_var 1 rfl ?_ | refine wpE_var 2 rfl ?_ | refine wpE_var 3 rfl ?_ | refine wpE_var 4 rfl ?_ | refine wpE_var 5 rfl ?_ | refine wpE_var 6 rfl ?_ | refine wpE_var 7 rfl ?_ | refine wpE_var 8 rfl ?_ | refine wpE_var 9 rfl ?_ | refine wpE_var 10 rfl ?_ | refine wpE_var 11 rfl ?_ | refine wpE_var 12 rfl ?_ | refine wpE_var 13 rfl ?_) | ((with_reducible show wpE _ _ (.Tuple _ _ _) _ _); refine wpE_tup ?_) | ((with_reducible show wpE _ _ (.List _ _) _ _); refine wpE_lst ?_) | ((with_reducible show wpE _ _ (.BinOp _ .Add _ _) _ _); refine wpE_bin op_addD ok_add ?_) | ((with_reducible show wpE _ _ (.BinOp _ .Sub _ _) _ _); refine wpE_bin op_sub ok_sub ?_) | ((with_reducible show wpE _ _ (.Dict [_, _] _ _) _ _); refine wpE_disp2 ?_) | ((with_reducible show wpE _ _ (.Dict [_] _ _) _ _); refine wpE_disp1 ?_) | with_reducible refine r_d2 (by decide +kernel) ?_ | with_reducible refine r_d1 ?_)
  refine ⟨_, rfl, ?_⟩
  repeat (first | ((with_reducible show wpA _ _ (_ :: _) _ _); refine wpA_cons ?_) | with_reducible refine wpA_nil ?_ | with_reducible refine wpE_int ?_ | with_reducible refine wpE_none ?_ | with_reducible refine wpE_bool ?_ | with_reducible refine wpE_str ?_ | with_reducible refine r_addI ?_ | with_reducible refine r_subI ?_ | with_reducible refine r_small (by with_unfolding_all rfl) ?_ | with_reducible refine r_addL (by with_unfolding_all rfl) ?_ | ((with_reducible show wpE _ _ (.Name _ _) _ _); first | refine wpE_var 0 rfl ?_ | refine wpE_var 1 rfl ?_ | refine wpE_var 2 rfl ?_ | refine wpE_var 3 rfl ?_ | refine wpE_var 4 rfl ?_ | refine wpE_var 5 rfl ?_ | refine wpE_var 6 rfl ?_ | refine wpE_var 7 rfl ?_ | refine wpE_var 8 rfl ?_ | refine wpE_var 9 rfl ?_ | refine wpE_var 10 rfl ?_ | refine wpE_var 11 rfl ?_ | refine wpE_var 12 rfl ?_ | refine wpE_var 13 rfl ?_) | ((with_reducible show wpE _ _ (.Tuple _ _ _) _ _); refine wpE_tup ?_) | ((with_reducible show wpE _ _ (.List _ _) _ _); refine wpE_lst ?_) | ((with_reducible show wpE _ _ (.BinOp _ .Add _ _) _ _); refine wpE_bin op_addD ok_add ?_) | ((with_reducible show wpE _ _ (.BinOp _ .Sub _ _) _ _); refine wpE_bin op_sub ok_sub ?_) | ((with_reducible show wpE _ _ (.Dict [_, _] _ _) _ _); refine wpE_disp2 ?_) | ((with_reducible show wpE _ _ (.Dict [_] _ _) _ _); refine wpE_disp1 ?_) | with_reducible refine r_d2 (by decide +kernel) ?_ | with_reducible refine r_d1 ?_)
  refine wpE_take 0 GT hr gT kT bT rfl (wpE_int ⟨_, rfl, by decide, by decide, fun z z0 z1 => ?_⟩)
  refine r_addI ⟨(1 + z).toNat, congrArg PyData.int (by omega), _, rfl, ?_⟩
  have hz : 1 ≤ (1 + z).toNat ∧ (1 + z).toNat ≤ 3 := by omega
  generalize (1 + z).toNat = n at hz
  refine ⟨fun i δ' => ∃ ks s2 s3, ks.map (·.1) = knm.take i ∧ (∀ p ∈ ks, 0 ≤ p.2.1 ∧ p.2.1 ≤ p.2.2 ∧ p.2.2 ≤ 20) ∧ δ' = [some (.own .feed), some (.own (.dic (asD (kk ks)))), s2, s3], ⟨[], _, _, rfl, (fun _ z => nomatch z), rfl⟩, ?_, ?_⟩
  · rintro i d δ' hd ⟨ks, s2, s3, hk, hv, rfl⟩
    have hd' : ((knm.map PyData.str).take n)[i]? = some d := hd
    rw [List.getElem?_take] at hd'
    have hin : i < n := by
      by_cases e : i < n
      · exact e
      · rw [if_neg e] at hd'; cases hd'
    rw [if_pos hin, List.getElem?_map] at hd'
    obtain ⟨x, hx, rfl⟩ : ∃ x, knm[i]? = some x ∧ d = .str x := by
      cases e : knm[i]? with
      | none => rw [e] at hd'; cases hd'
      | some x => rw [e] at hd'; exact ⟨x, rfl, (Option.some.inj hd').symm⟩
    refine wpG_name 2 ?_ scKinds.nd
    show wpSs _ _ _ [some (.own .feed), some (.own (.dic (asD (kk ks)))), some (.d (.str x)), s3] _
    refine wpSs_cons (wpS_set 3 ?_ scKinds.nd)
    refine wpE_take 0 GT hr gT kT bT rfl (wpE_int ⟨_, rfl, by decide, by decide, fun lo lo0 lo1 => ?_⟩)
    show wpSs _ _ _ [some (.own .feed), some (.own (.dic (asD (kk ks)))), some (.d (.str x)), some (.d (.int lo))] _
    refine wpSs_one (wpS_put 1 rfl hu ?_)
    repeat (first | ((with_reducible show wpA _ _ (_ :: _) _ _); refine wpA_cons ?_) | with_reducible refine wpA_nil ?_ | with_reducible refine wpE_int ?_ | with_reducible refine wpE_none ?_ | with_reducible refine wpE_bool ?_ | with_reducible refine wpE_str ?_ | with_reducible refine r_addI ?_ | with_reducible refine r_subI ?_ | with_reducible refine r_small (by with_unfolding_all rfl) ?_ | with_reducible refine r_addL (by with_unfolding_all rfl) ?_ | ((with_reducible show wpE _ _ (.Name _ _) _ _); first | refine wpE_var 0 rfl ?_ | refine wpE_var 1 rfl ?_ | refine wpE_var 2 rfl ?_ | refine wpE_var 3 rfl ?_ | refine wpE_var 4 rfl ?_ | refine wpE_var 5 rfl ?_ | refine wpE_var 6 rfl ?_ | refine wpE_var 7 rfl ?_ | refine wpE_var 8 rfl ?_ | refine wpE_var 9 rfl ?_ | refine wpE_var 10 rfl ?_ | refine wpE_var 11 rfl ?_ | refine wpE_var 12 rfl ?_ | refine wpE_var 13 rfl ?_) | ((with_reducible show wpE _ _ (.Tuple _ _ _) _ _); refine wpE_tup ?_) | ((with_reducible show wpE _ _ (.List _ _) _ _); refine wpE_lst ?_) | ((with_reducible show wpE _ _ (.BinOp _ .Add _ _) _ _); refine wpE_bin op_addD ok_add ?_) | ((with_reducible show wpE _ _ (.BinOp _ .Sub _ _) _ _); refine wpE_bin op_sub ok_sub ?_) | ((with_reducible show wpE _ _ (.Dict [_, _] _ _) _ _); refine wpE_disp2 ?_) | ((with_reducible show wpE _ _ (.Dict [_] _ _) _ _); refine wpE_disp1 ?_) | with_reducible refine r_d2 (by decide +kernel) ?_ | with_reducible refine r_d1 ?_)
    refine wpE_take 0 GT hr gT kT bT rfl (wpE_int ⟨_, rfl, by decide, by decide, fun ex e0 e1 => ?_⟩)
    repeat (first | ((with_reducible show wpA _ _ (_ :: _) _ _); refine wpA_cons ?_) | with_reducible refine wpA_nil ?_ | with_reducible refine wpE_int ?_ | with_reducible refine wpE_none ?_ | with_reducible refine wpE_bool ?_ | with_reducible refine wpE_str ?_ | with_reducible refine r_addI ?_ | with_reducible refine r_subI ?_ | with_reducible refine r_small (by with_unfolding_all rfl) ?_ | with_reducible refine r_addL (by with_unfolding_all rfl) ?_ | ((with_reducible show wpE _ _ (.Name _ _) _ _); first | refine wpE_var 0 rfl ?_ | refine wpE_var 1 rfl ?_ | refine wpE_var 2 rfl ?_ | refine wpE_var 3 rfl ?_ | refine wpE_var 4 rfl ?_ | refine wpE_var 5 rfl ?_ | refine wpE_var 6 rfl ?_ | refine wpE_var 7 rfl ?_ | refine wpE_var 8 rfl ?_ | refine wpE_var 9 rfl ?_ | refine wpE_var 10 rfl ?_ | refine wpE_var 11 rfl ?_ | refine wpE_var 12 rfl ?_ | refine wpE_var 13 rfl ?_) | ((with_reducible show wpE _ _ (.Tuple _ _ _) _ _); refine wpE_tup ?_) | ((with_reducible show wpE _ _ (.List _ _) _ _); refine wpE_lst ?_) | ((with_reducible show wpE _ _ (.BinOp _ .Add _ _) _ _); refine wpE_bin op_addD ok_add ?_) | ((with_reducible show wpE _ _ (.BinOp _ .Sub _ _) _ _); refine wpE_bin op_sub ok_sub ?_) | ((with_reducible show wpE _ _ (.Dict [_, _] _ _) _ _); refine wpE_disp2 ?_) | ((with_reducible show wpE _ _ (.Dict [_] _ _) _ _); refine wpE_disp1 ?_) | with_reducible refine r_d2 (by decide +kernel) ?_ | with_reducible refine r_d1 ?_)
    have hnew : x ∉ ks.map (·.1) := by rw [hk]; exact knm_new hx
    refine ⟨.inr x, rfl, ?_, ?_⟩
    · show (kk ks).length < sizeLine
      unfold kk
      rw [List.length_map]
      have : (ks.map (·.1)).length ≤ 3 := by rw [hk, List.length_take]; exact Nat.min_le_right _ _
      rw [List.length_map] at this
      exact Nat.lt_of_le_of_lt (Nat.le_trans this (by decide : 3 ≤ 1000)) (by decide)
    · refine ⟨ks ++ [(x, lo, lo + ex)], _, _, ?_, fun p hp => ?_, by rw [← kk_put hnew]; rfl⟩
      · rw [List.map_append, hk, List.take_succ, hx]
        rfl
      · rcases List.mem_append.mp hp with hp | hp
        · exact hv p hp
        · rw [List.mem_singleton.mp hp]
          exact ⟨lo0, by show lo ≤ lo + ex; omega, by show lo + ex ≤ 20; omega⟩
  · rintro δ' ⟨ks, s2, s3, hk, hv, rfl⟩
    have hlen : ((knm.map PyData.str).take n).length = n := by rw [List.length_take]; show min n 3 = n; omega
    have hk' : ks.map (·.1) = knm.take n := by rw [hk]; exact congrArg (fun m => knm.take m) hlen
    refine wpSs_thawD 1 rfl ?_
    refine wpSs_one (wpS_ret (wpE_var 1 rfl ?_))
    refine ⟨ks, ?_, fun e => ?_, ?_, ?_, fun p hp => ?_, hv⟩
    · rw [asD_kk]; rfl
    · rw [e] at hk'
      have := congrArg List.length hk'
      rw [List.length_take] at this
      have h3 : knm.length = 3 := rfl
      rw [h3] at this
      change 0 = _ at this
      omega
    · have := congrArg List.length hk'
      rw [List.length_map, List.length_take] at this
      have h3 : knm.length = 3 := rfl
      omega
    · rw [hk']
      exact knm_nodup.sublist (List.take_sublist _ _)
    · have : p.1 ∈ knm.take n := by rw [← hk']; exact List.mem_map_of_mem hp
      exact List.mem_of_mem_take this
/-! ### a line -/
abbrev nLine : List Str := ["feed", "time", "name", "plate"]
theorem scLine : FnScope nLine ["feed", "time", "name", "plate"] (defScope sLine) := ⟨rfl, rfl, rfl, by decide +kernel, rfl, by decide +kernel, by decide +kernel⟩
abbrev preLn : List D → Prop := fun ds => ∃ (t : Int) (nm : Str) (pl : Option Str), ds = [.int t, .str nm, oS pl]
abbrev postLn : List D → D → Prop := fun _ d => ∃ l : Line, d = lineD l
abbrev GLine (P : Program) (w : World) (K : PySem.W.Frag) (mg : Str → Option Value) (base : Heap) (Tb : List Addr) (f : Addr) (fd : FuncData) : Prop := FnOk P w K mg base CX0 3 f fd ["feed", "time", "name", "plate"] (spD Tb 1 3 preLn postLn)
theorem ok_line {f c : Addr} {fd : FuncData} (F : FunC K "_law_line" "_law_line" sLine f c fd)
    {fP : Addr} {fdP : FuncData} (GP : GPick P w K mg base Tb fP fdP) (gP : mg "_law_pick" = some (.ref fP)) (kP : PySem.W.keepIn K (.ref fP) = true) (bP : Binds K fdP ["feed", "choices"] []) :
    GLine P w K mg base Tb f fd := by
  refine fn_ok F scLine (by decide) rfl fun A outer s H E ds hr hl hp => ?_
  obtain ⟨t, nm, pl, rfl⟩ := hp
  show wpSs _ _ _ [some (.own .feed), some (.d (.int t)), some (.d (.str nm)), some (.d (oS pl))] _
  refine wpSs_one (wpS_ret ?_)
  repeat (first | ((with_reducible show wpA _ _ (_ :: _) _ _); refine wpA_cons ?_) | with_reducible refine wpA_nil ?_ | with_reducible refine wpE_int ?_ | with_reducible refine wpE_none ?_ | with_reducible refine wpE_bool ?_ | with_reducible refine wpE_str ?_ | with_reducible refine r_addI ?_ | with_reducible refine r_subI ?_ | with_reducible refine r_small (by with_unfolding_all rfl) ?_ | with_reducible refine r_addL (by with_unfolding_all rfl) ?_ | ((with_reducible show wpE _ _ (.Name _ _) _ _); first | refine wpE_var 0 rfl ?_ | refine wpE_var 1 rfl ?_ | refine wpE_var 2 rfl ?_ | refine wpE_var 3 rfl ?_ | refine wpE_var 4 rfl ?_ | refine wpE_var 5 rfl ?_ | refine wpE_var 6 rfl ?_ | refine wpE_var 7 rfl ?_ | refine wpE_var 8 rfl ?_ | refine wpE_var 9 rfl ?_ | refine wpE_var 10 rfl ?_ | refine wpE_var 11 rfl ?_ | refine wpE_var 12 rfl ?_ | refine wpE_var 13 rfl ?_) | ((with_reducible show wpE _ _ (.Tuple _ _ _) _ _); refine wpE_tup ?_) | ((with_reducible show wpE _ _ (.List _ _) _ _); refine wpE_lst ?_) | ((with_reducible show wpE _ _ (.BinOp _ .Add _ _) _ _); refine wpE_bin op_addD ok_add ?_) | ((with_reducible show wpE _ _ (.BinOp _ .Sub _ _) _ _); refine wpE_bin op_sub ok_sub ?_) | ((with_reducible show wpE _ _ (.Dict [_, _] _ _) _ _); refine wpE_disp2 ?_) | ((with_reducible show wpE _ _ (.Dict [_] _ _) _ _); refine wpE_disp1 ?_) | with_reducible refine r_d2 (by decide +kernel) ?_ | with_reducible refine r_d1 ?_)
  refine wpE_pick 0 GP hr gP kP bP rfl ?_
  repeat (first | ((with_reducible show wpA _ _ (_ :: _) _ _); refine wpA_cons ?_) | with_reducible refine wpA_nil ?_ | with_reducible refine wpE_int ?_ | with_reducible refine wpE_none ?_ | with_reducible refine wpE_bool ?_ | with_reducible refine wpE_str ?_ | with_reducible refine r_addI ?_ | with_reducible refine r_subI ?_ | with_reducible refine r_small (by with_unfolding_all rfl) ?_ | with_reducible refine r_addL (by with_unfolding_all rfl) ?_ | ((with_reducible show wpE _ _ (.Name _ _) _ _); first | refine wpE_var 0 rfl ?_ | refine wpE_var 1 rfl ?_ | refine wpE_var 2 rfl ?_ | refine wpE_var 3 rfl ?_ | refine wpE_var 4 rfl ?_ | refine wpE_var 5 rfl ?_ | refine wpE_var 6 rfl ?_ | refine wpE_var 7 rfl ?_ | refine wpE_var 8 rfl ?_ | refine wpE_var 9 rfl ?_ | refine wpE_var 10 rfl ?_ | refine wpE_var 11 rfl ?_ | refine wpE_var 12 rfl ?_ | refine wpE_var 13 rfl ?_) | ((with_reducible show wpE _ _ (.Tuple _ _ _) _ _); refine wpE_tup ?_) | ((with_reducible show wpE _ _ (.List _ _) _ _); refine wpE_lst ?_) | ((with_reducible show wpE _ _ (.BinOp _ .Add _ _) _ _); refine wpE_bin op_addD ok_add ?_) | ((with_reducible show wpE _ _ (.BinOp _ .Sub _ _) _ _); refine wpE_bin op_sub ok_sub ?_) | ((with_reducible show wpE _ _ (.Dict [_, _] _ _) _ _); refine wpE_disp2 ?_) | ((with_reducible show wpE _ _ (.Dict [_] _ _) _ _); refine wpE_disp1 ?_) | with_reducible refine r_d2 (by decide +kernel) ?_ | with_reducible refine r_d1 ?_)
  refine r_pick rfl rfl fun y hy => ?_
  obtain ⟨kd, rfl⟩ : ∃ kd : Option Str, y = oS kd := by
    simp only [List.mem_cons, List.not_mem_nil, or_false] at hy
    rcases hy with rfl | rfl | rfl
    · exact ⟨some nm, rfl⟩
    · exact ⟨some nm, rfl⟩
    · exact ⟨none, rfl⟩
  repeat (first | ((with_reducible show wpA _ _ (_ :: _) _ _); refine wpA_cons ?_) | with_reducible refine wpA_nil ?_ | with_reducible refine wpE_int ?_ | with_reducible refine wpE_none ?_ | with_reducible refine wpE_bool ?_ | with_reducible refine wpE_str ?_ | with_reducible refine r_addI ?_ | with_reducible refine r_subI ?_ | with_reducible refine r_small (by with_unfolding_all rfl) ?_ | with_reducible refine r_addL (by with_unfolding_all rfl) ?_ | ((with_reducible show wpE _ _ (.Name _ _) _ _); first | refine wpE_var 0 rfl ?_ | refine wpE_var 1 rfl ?_ | refine wpE_var 2 rfl ?_ | refine wpE_var 3 rfl ?_ | refine wpE_var 4 rfl ?_ | refine wpE_var 5 rfl ?_ | refine wpE_var 6 rfl ?_ | refine wpE_var 7 rfl ?_ | refine wpE_var 8 rfl ?_ | refine wpE_var 9 rfl ?_ | refine wpE_var 10 rfl ?_ | refine wpE_var 11 rfl ?_ | refine wpE_var 12 rfl ?_ | refine wpE_var 13 rfl ?_) | ((with_reducible show wpE _ _ (.Tuple _ _ _) _ _); refine wpE_tup ?_) | ((with_reducible show wpE _ _ (.List _ _) _ _); refine wpE_lst ?_) | ((with_reducible show wpE _ _ (.BinOp _ .Add _ _) _ _); refine wpE_bin op_addD ok_add ?_) | ((with_reducible show wpE _ _ (.BinOp _ .Sub _ _) _ _); refine wpE_bin op_sub ok_sub ?_) | ((with_reducible show wpE _ _ (.Dict [_, _] _ _) _ _); refine wpE_disp2 ?_) | ((with_reducible show wpE _ _ (.Dict [_] _ _) _ _); refine wpE_disp1 ?_) | with_reducible refine r_d2 (by decide +kernel) ?_ | with_reducible refine r_d1 ?_)
  refine wpE_pick 0 GP hr gP kP bP rfl ?_
  repeat (first | ((with_reducible show wpA _ _ (_ :: _) _ _); refine wpA_cons ?_) | with_reducible refine wpA_nil ?_ | with_reducible refine wpE_int ?_ | with_reducible refine wpE_none ?_ | with_reducible refine wpE_bool ?_ | with_reducible refine wpE_str ?_ | with_reducible refine r_addI ?_ | with_reducible refine r_subI ?_ | with_reducible refine r_small (by with_unfolding_all rfl) ?_ | with_reducible refine r_addL (by with_unfolding_all rfl) ?_ | ((with_reducible show wpE _ _ (.Name _ _) _ _); first | refine wpE_var 0 rfl ?_ | refine wpE_var 1 rfl ?_ | refine wpE_var 2 rfl ?_ | refine wpE_var 3 rfl ?_ | refine wpE_var 4 rfl ?_ | refine wpE_var 5 rfl ?_ | refine wpE_var 6 rfl ?_ | refine wpE_var 7 rfl ?_ | refine wpE_var 8 rfl ?_ | refine wpE_var 9 rfl ?_ | refine wpE_var 10 rfl ?_ | refine wpE_var 11 rfl ?_ | refine wpE_var 12 rfl ?_ | refine wpE_var 13 rfl ?_) | ((with_reducible show wpE _ _ (.Tuple _ _ _) _ _); refine wpE_tup ?_) | ((with_reducible show wpE _ _ (.List _ _) _ _); refine wpE_lst ?_) | ((with_reducible show wpE _ _ (.BinOp _ .Add _ _) _ _); refine wpE_bin op_addD ok_add ?_) | ((with_reducible show wpE _ _ (.BinOp _ .Sub _ _) _ _); refine wpE_bin op_sub ok_sub ?_) | ((with_reducible show wpE _ _ (.Dict [_, _] _ _) _ _); refine wpE_disp2 ?_) | ((with_reducible show wpE _ _ (.Dict [_] _ _) _ _); refine wpE_disp1 ?_) | with_reducible refine r_d2 (by decide +kernel) ?_ | with_reducible refine r_d1 ?_)
  refine r_pick rfl rfl fun y hy => ?_
  obtain ⟨p, rfl⟩ : ∃ p : Option Str, y = oS p := by
    simp only [List.mem_cons, List.not_mem_nil, or_false] at hy
    rcases hy with rfl | rfl
    · exact ⟨pl, rfl⟩
    · exact ⟨none, rfl⟩
  repeat (first | ((with_reducible show wpA _ _ (_ :: _) _ _); refine wpA_cons ?_) | with_reducible refine wpA_nil ?_ | with_reducible refine wpE_int ?_ | with_reducible refine wpE_none ?_ | with_reducible refine wpE_bool ?_ | with_reducible refine wpE_str ?_ | with_reducible refine r_addI ?_ | with_reducible refine r_subI ?_ | with_reducible refine r_small (by with_unfolding_all rfl) ?_ | with_reducible refine r_addL (by with_unfolding_all rfl) ?_ | ((with_reducible show wpE _ _ (.Name _ _) _ _); first | refine wpE_var 0 rfl ?_ | refine wpE_var 1 rfl ?_ | refine wpE_var 2 rfl ?_ | refine wpE_var 3 rfl ?_ | refine wpE_var 4 rfl ?_ | refine wpE_var 5 rfl ?_ | refine wpE_var 6 rfl ?_ | refine wpE_var 7 rfl ?_ | refine wpE_var 8 rfl ?_ | refine wpE_var 9 rfl ?_ | refine wpE_var 10 rfl ?_ | refine wpE_var 11 rfl ?_ | refine wpE_var 12 rfl ?_ | refine wpE_var 13 rfl ?_) | ((with_reducible show wpE _ _ (.Tuple _ _ _) _ _); refine wpE_tup ?_) | ((with_reducible show wpE _ _ (.List _ _) _ _); refine wpE_lst ?_) | ((with_reducible show wpE _ _ (.BinOp _ .Add _ _) _ _); refine wpE_bin op_addD ok_add ?_) | ((with_reducible show wpE _ _ (.BinOp _ .Sub _ _) _ _); refine wpE_bin op_sub ok_sub ?_) | ((with_reducible show wpE _ _ (.Dict [_, _] _ _) _ _); refine wpE_disp2 ?_) | ((with_reducible show wpE _ _ (.Dict [_] _ _) _ _); refine wpE_disp1 ?_) | with_reducible refine r_d2 (by decide +kernel) ?_ | with_reducible refine r_d1 ?_)
  exact ⟨⟨t, kd, p⟩, rfl⟩
end
end K31

set_option Elab.async false
set_option linter.all false
set_option maxRecDepth 100000
set_option maxHeartbeats 1000000
namespace K31
open PySem PySem.Spec L2 DL
/-! ### own lists of lines -/
structure LsI (bd : Nat → Nat) (Pl : Line → Prop) (qs : Inners) (ll : List (List Line)) : Prop where
  dat : qs.map (·.2) = ll.map fun ls => ls.map lineD
  two : ll.length = 2
  bd : ∀ j ls, ll[j]? = some ls → ls.length ≤ bd j ∧ ∀ l ∈ ls, Pl l
theorem LsI.get {bd : Nat → Nat} {Pl : Line → Prop} {qs : Inners} {ll : List (List Line)} (h : LsI bd Pl qs ll) {g : Nat} (hg : g < 2) : ∃ q ls, qs[g]? = some (q, ls.map lineD) ∧ ll[g]? = some ls ∧ ls.length ≤ bd g ∧ ∀ l ∈ ls, Pl l := by
  have h1 : g < ll.length := by rw [h.two]; exact hg
  have h2 : (qs.map (·.2))[g]? = some ((ll[g]).map lineD) := by rw [h.dat, List.getElem?_map, List.getElem?_eq_getElem h1]; rfl
  rw [List.getElem?_map] at h2
  cases e : qs[g]? with
  | none => rw [e] at h2; cases h2
  | some x =>
    rw [e] at h2
    have h3 : x.2 = (ll[g]).map lineD := Option.some.inj h2
    obtain ⟨b1, b2⟩ := h.bd g _ (List.getElem?_eq_getElem h1)
    exact ⟨x.1, ll[g], by rw [← h3], List.getElem?_eq_getElem h1, b1, b2⟩
theorem LsI.mono {bd bd' : Nat → Nat} {Pl : Line → Prop} {qs : Inners} {ll : List (List Line)} (h : LsI bd Pl qs ll) (hb : ∀ j, j < 2 → bd j ≤ bd' j) : LsI bd' Pl qs ll :=
  ⟨h.dat, h.two, fun j ls e => ⟨Nat.le_trans (h.bd j ls e).1 (hb j (by have := (List.getElem?_eq_some_iff.mp e).1; rw [h.two] at this; exact this)), (h.bd j ls e).2⟩⟩
theorem LsI.set {bd bd' : Nat → Nat} {Pl : Line → Prop} {qs : Inners} {ll : List (List Line)} (h : LsI bd Pl qs ll) {g : Nat} {q : Addr} {ls : List Line} {ds' : List D} (hd : ds' = ls.map lineD) (hb : ∀ j, j < 2 → j ≠ g → bd j ≤ bd' j) (hl : ls.length ≤ bd' g) (hp : ∀ l ∈ ls, Pl l) : LsI bd' Pl (qs.set g (q, ds')) (ll.set g ls) := by
  subst hd
  refine ⟨?_, by rw [List.length_set]; exact h.two, fun j l e => ?_⟩
  · rw [List.map_set, List.map_set, h.dat]
  · rw [List.getElem?_set] at e
    by_cases hj : g = j
    · subst hj
      rw [if_pos rfl] at e
      split at e
      · cases e
        exact ⟨hl, hp⟩
      · cases e
    · rw [if_neg hj] at e
      have hj2 : j < 2 := by have := (List.getElem?_eq_some_iff.mp e).1; rw [h.two] at this; exact this
      exact ⟨Nat.le_trans (h.bd j l e).1 (hb j hj2 fun z => hj z.symm), (h.bd j l e).2⟩
theorem LsI.two' {bd : Nat → Nat} {Pl : Line → Prop} {qs : Inners} {ll : List (List Line)} (h : LsI bd Pl qs ll) : ∃ en ex : List Line, lssD qs = .list [.list (en.map lineD), .list (ex.map lineD)] ∧ en.length ≤ bd 0 ∧ ex.length ≤ bd 1 ∧ (∀ l ∈ en, Pl l) ∧ (∀ l ∈ ex, Pl l) := by
  obtain ⟨dat, two, b⟩ := h
  match ll, two, dat, b with
  | [en, ex], _, dat, b =>
    refine ⟨en, ex, ?_, (b 0 en rfl).1, (b 1 ex rfl).1, (b 0 en rfl).2, (b 1 ex rfl).2⟩
    show PyData.list (qs.map fun x => .list x.2) = _
    have : (qs.map fun x => PyData.list x.2) = (qs.map (·.2)).map PyData.list := by rw [List.map_map]; rfl
    rw [this, dat]
    rfl
theorem LsI.at {bd : Nat → Nat} {Pl : Line → Prop} {qs : Inners} {ll : List (List Line)} (h : LsI bd Pl qs ll) {g : Nat} {q : Addr} {ds : List D} (e : qs[g]? = some (q, ds)) : atI (qs.map fun x => PyData.list x.2) (g : Nat) = some (.list ds) :=
  at_nat (by rw [List.getElem?_map, e]; rfl)
theorem map_ins {α β : Type} (f : α → β) (xs : List α) (k : Nat) (x : α) : (xs.map f).take k ++ [f x] ++ (xs.map f).drop k = (xs.take k ++ [x] ++ xs.drop k).map f := by
  rw [List.map_append, List.map_append, List.map_take, List.map_drop]
  rfl
theorem len_ins {α : Type} (xs : List α) (k : Nat) (x : α) : (xs.take k ++ [x] ++ xs.drop k).length = xs.length + 1 := by
  rw [List.length_append, List.length_append, List.length_take, List.length_drop]
  show min k xs.length + 1 + _ = _
  omega
theorem mem_ins {α : Type} {xs : List α} {k : Nat} {x y : α} (h : y ∈ xs.take k ++ [x] ++ xs.drop k) : y ∈ xs ∨ y = x := by
  rcases List.mem_append.mp h with h | h
  · rcases List.mem_append.mp h with h | h
    · exact .inl (List.mem_of_mem_take h)
    · exact .inr (List.mem_singleton.mp h)
  · exact .inl (List.mem_of_mem_drop h)
/-! ### logs of one kind -/
def carN : Str := "car"
structure OneL (l : Line) : Prop where
  kd : l.kind = none ∨ l.kind = some carN
  pl : l.plate = none
  t0 : 0 ≤ l.time
  t1 : l.time ≤ 100
def okF (f : Option Int) : Prop := ∀ x, f = some x → 0 ≤ x ∧ x ≤ 30
structure OneLog (lg : Log) : Prop where
  en : ∀ l ∈ lg.entries, OneL l
  ex : ∀ l ∈ lg.exits, OneL l
  ln : lg.entries.length ≤ 6
  lx : lg.exits.length ≤ 6
  ef : okF lg.ef
  xf : okF lg.xf
def carK (s l : Int) : Kinds := [(carN, s, l)]
section
variable {P : Program} {w : World} {K : PySem.W.Frag} {mg : Str → Option Value} {base : Heap} {Tb : List Addr}
theorem rng_get {n : Nat} {i : Nat} {d : D} (h : ((List.range n).map fun i : Nat => (PyData.int (0 + (i : Nat)) : D))[i]? = some d) : i < n ∧ d = .int (i : Nat) := by
  rw [List.getElem?_map] at h
  cases e : (List.range n)[i]? with
  | none => rw [e] at h; cases h
  | some k =>
    rw [e] at h
    have hi := (List.getElem?_eq_some_iff.mp e).1
    rw [List.length_range] at hi
    rw [List.getElem?_range hi] at e
    cases e
    cases h
    exact ⟨hi, congrArg PyData.int (by omega)⟩
abbrev nOK : List Str := ["feed", "shortest", "kinds", "floors", "gate", "lines", "vehicle", "times", "place"]
theorem scOK : FnScope nOK ["feed"] (defScope sOneKind) := ⟨rfl, rfl, rfl, by decide +kernel, rfl, by decide +kernel, by decide +kernel⟩
abbrev GOne (P : Program) (w : World) (K : PySem.W.Frag) (mg : Str → Option Value) (base : Heap) (Tb : List Addr) (f : Addr) (fd : FuncData) : Prop := FnOk P w K mg base CX0 3 f fd ["feed"] (spD Tb 1 0 (fun ds => ds = []) fun _ d => ∃ (s l : Int) (lg : Log), d = .list [kindsD (carK s l), logD lg] ∧ 0 ≤ s ∧ s ≤ l ∧ l ≤ 20 ∧ OneLog lg)
theorem ok_one {f c : Addr} {fd : FuncData} (F : FunC K "_law_one_kind" "_law_one_kind" sOneKind f c fd) (m_range : mg "range" = none) (m_len : mg "len" = none)
    {fT : Addr} {fdT : FuncData} (GT : GTake P w K mg base Tb fT fdT) (gT : mg "_law_take" = some (.ref fT)) (kT : PySem.W.keepIn K (.ref fT) = true) (bT : Binds K fdT ["feed", "size"] [])
    {fP : Addr} {fdP : FuncData} (GP : GPick P w K mg base Tb fP fdP) (gP : mg "_law_pick" = some (.ref fP)) (kP : PySem.W.keepIn K (.ref fP) = true) (bP : Binds K fdP ["feed", "choices"] []) :
    GOne P w K mg base Tb f fd := by
  refine fn_ok F scOK (by decide) rfl fun A outer s H E ds hr hl hp => ?_
  subst hp
  have hr1 : Room 1 (A.deeper (PyProof.Rows.envOfC "_law_one_kind" (defScope sOneKind) s.heap.objs.size f (.ref c))) := hr.mono (by decide)
  have hu : (A.deeper (PyProof.Rows.envOfC "_law_one_kind" (defScope sOneKind) s.heap.objs.size f (.ref c))).units + 1 < cLine := by have := hr.un; omega
  show wpSs _ _ _ [some (.own .feed), none, none, none, none, none, none, none, none] _
  refine wpSs_cons (wpS_set 1 ?_ scOK.nd)
  refine wpE_take 0 GT hr1 gT kT bT rfl (wpE_int ⟨_, rfl, by decide, by decide, fun sh sh0 sh1 => ?_⟩)
  show wpSs _ _ _ [some (.own .feed), some (.d (.int sh)), none, none, none, none, none, none, none] _
  refine wpSs_cons (wpS_set 2 ?_ scOK.nd)
  repeat (first | ((with_reducible show wpA _ _ (_ :: _) _ _); refine wpA_cons ?_) | with_reducible refine wpA_nil ?_ | with_reducible refine wpE_int ?_ | with_reducible refine wpE_none ?_ | with_reducible refine wpE_bool ?_ | with_reducible refine wpE_str ?_ | with_reducible refine r_addI ?_ | with_reducible refine r_subI ?_ | with_reducible refine r_small (by with_unfolding_all rfl) ?_ | with_reducible refine r_addL (by with_unfolding_all rfl) ?_ | ((with_reducible show wpE _ _ (.Name _ _) _ _); first | refine wpE_var 0 rfl ?_ | refine wpE_var 1 rfl ?_ | refine wpE_var 2 rfl ?_ | refine wpE_var 3 rfl ?_ | refine wpE_var 4 rfl ?_ | refine wpE_var 5 rfl ?_ | refine wpE_var 6 rfl ?_ | refine wpE_var 7 rfl ?_ | refine wpE_var 8 rfl ?_ | refine wpE_var 9 rfl ?_ | refine wpE_var 10 rfl ?_ | refine wpE_var 11 rfl ?_ | refine wpE_var 12 rfl ?_ | refine wpE_var 13 rfl ?_) | ((with_reducible show wpE _ _ (.Tuple _ _ _) _ _); refine wpE_tup ?_) | ((with_reducible show wpE _ _ (.List _ _) _ _); refine wpE_lst ?_) | ((with_reducible show wpE _ _ (.BinOp _ .Add _ _) _ _); refine wpE_bin op_addD ok_add ?_) | ((with_reducible show wpE _ _ (.BinOp _ .Sub _ _) _ _); refine wpE_bin op_sub ok_sub ?_) | ((with_reducible show wpE _ _ (.Dict [_, _] _ _) _ _); refine wpE_disp2 ?_) | ((with_reducible show wpE _ _ (.Dict [_] _ _) _ _); refine wpE_disp1 ?_) | with_reducible refine r_d2 (by decide +kernel) ?_ | with_reducible refine r_d1 ?_)
  refine wpE_take 0 GT hr1 gT kT bT rfl (wpE_int ⟨_, rfl, by decide, by decide, fun ex ex0 ex1 => ?_⟩)
  repeat (first | ((with_reducible show wpA _ _ (_ :: _) _ _); refine wpA_cons ?_) | with_reducible refine wpA_nil ?_ | with_reducible refine wpE_int ?_ | with_reducible refine wpE_none ?_ | with_reducible refine wpE_bool ?_ | with_reducible refine wpE_str ?_ | with_reducible refine r_addI ?_ | with_reducible refine r_subI ?_ | with_reducible refine r_small (by with_unfolding_all rfl) ?_ | with_reducible refine r_addL (by with_unfolding_all rfl) ?_ | ((with_reducible show wpE _ _ (.Name _ _) _ _); first | refine wpE_var 0 rfl ?_ | refine wpE_var 1 rfl ?_ | refine wpE_var 2 rfl ?_ | refine wpE_var 3 rfl ?_ | refine wpE_var 4 rfl ?_ | refine wpE_var 5 rfl ?_ | refine wpE_var 6 rfl ?_ | refine wpE_var 7 rfl ?_ | refine wpE_var 8 rfl ?_ | refine wpE_var 9 rfl ?_ | refine wpE_var 10 rfl ?_ | refine wpE_var 11 rfl ?_ | refine wpE_var 12 rfl ?_ | refine wpE_var 13 rfl ?_) | ((with_reducible show wpE _ _ (.Tuple _ _ _) _ _); refine wpE_tup ?_) | ((with_reducible show wpE _ _ (.List _ _) _ _); refine wpE_lst ?_) | ((with_reducible show wpE _ _ (.BinOp _ .Add _ _) _ _); refine wpE_bin op_addD ok_add ?_) | ((with_reducible show wpE _ _ (.BinOp _ .Sub _ _) _ _); refine wpE_bin op_sub ok_sub ?_) | ((with_reducible show wpE _ _ (.Dict [_, _] _ _) _ _); refine wpE_disp2 ?_) | ((with_reducible show wpE _ _ (.Dict [_] _ _) _ _); refine wpE_disp1 ?_) | with_reducible refine r_d2 (by decide +kernel) ?_ | with_reducible refine r_d1 ?_)
  obtain ⟨lo, hlo⟩ : ∃ lo : Int, lo = sh + ex := ⟨_, rfl⟩
  rw [← hlo]
  show wpSs _ _ _ [some (.own .feed), some (.d (.int sh)), some (.d (kindsD (carK sh lo))), none, none, none, none, none, none] _
  refine wpSs_cons (wpS_setLc (c := none) 3 4 rfl (wpI_range m_range (wpA_cons (wpE_int (wpA_nil ⟨_, rfl, ⟨by decide, by decide⟩, ?_⟩)))) rfl scOK.nd (blkOk_by (N := nOK) (sc := defScope sOneKind) (by decide +kernel)) rfl)
  refine ⟨by decide, fun i acc => ∃ fl : List (Option Int), acc = fl.map floorD ∧ fl.length = i ∧ ∀ o ∈ fl, okF o, ⟨[], rfl, rfl, (fun _ z => nomatch z)⟩, fun i d acc hd hv z H C cl fp => ?_, fun acc hv => ?_⟩
  · obtain ⟨fl, rfl, hfl, hok⟩ := hv
    refine wpE_pick 0 GP hr gP kP bP rfl ?_
    repeat (first | ((with_reducible show wpA _ _ (_ :: _) _ _); refine wpA_cons ?_) | with_reducible refine wpA_nil ?_ | with_reducible refine wpE_int ?_ | with_reducible refine wpE_none ?_ | with_reducible refine wpE_bool ?_ | with_reducible refine wpE_str ?_ | with_reducible refine r_addI ?_ | with_reducible refine r_subI ?_ | with_reducible refine r_small (by with_unfolding_all rfl) ?_ | with_reducible refine r_addL (by with_unfolding_all rfl) ?_ | ((with_reducible show wpE _ _ (.Name _ _) _ _); first | refine wpE_var 0 rfl ?_ | refine wpE_var 1 rfl ?_ | refine wpE_var 2 rfl ?_ | refine wpE_var 3 rfl ?_ | refine wpE_var 4 rfl ?_ | refine wpE_var 5 rfl ?_ | refine wpE_var 6 rfl ?_ | refine wpE_var 7 rfl ?_ | refine wpE_var 8 rfl ?_ | refine wpE_var 9 rfl ?_ | refine wpE_var 10 rfl ?_ | refine wpE_var 11 rfl ?_ | refine wpE_var 12 rfl ?_ | refine wpE_var 13 rfl ?_) | ((with_reducible show wpE _ _ (.Tuple _ _ _) _ _); refine wpE_tup ?_) | ((with_reducible show wpE _ _ (.List _ _) _ _); refine wpE_lst ?_) | ((with_reducible show wpE _ _ (.BinOp _ .Add _ _) _ _); refine wpE_bin op_addD ok_add ?_) | ((with_reducible show wpE _ _ (.BinOp _ .Sub _ _) _ _); refine wpE_bin op_sub ok_sub ?_) | ((with_reducible show wpE _ _ (.Dict [_, _] _ _) _ _); refine wpE_disp2 ?_) | ((with_reducible show wpE _ _ (.Dict [_] _ _) _ _); refine wpE_disp1 ?_) | with_reducible refine r_d2 (by decide +kernel) ?_ | with_reducible refine r_d1 ?_)
    refine wpE_take 0 GT hr1 gT kT bT rfl (wpE_int ⟨_, rfl, by decide, by decide, fun y y0 y1 => ?_⟩)
    repeat (first | ((with_reducible show wpA _ _ (_ :: _) _ _); refine wpA_cons ?_) | with_reducible refine wpA_nil ?_ | with_reducible refine wpE_int ?_ | with_reducible refine wpE_none ?_ | with_reducible refine wpE_bool ?_ | with_reducible refine wpE_str ?_ | with_reducible refine r_addI ?_ | with_reducible refine r_subI ?_ | with_reducible refine r_small (by with_unfolding_all rfl) ?_ | with_reducible refine r_addL (by with_unfolding_all rfl) ?_ | ((with_reducible show wpE _ _ (.Name _ _) _ _); first | refine wpE_var 0 rfl ?_ | refine wpE_var 1 rfl ?_ | refine wpE_var 2 rfl ?_ | refine wpE_var 3 rfl ?_ | refine wpE_var 4 rfl ?_ | refine wpE_var 5 rfl ?_ | refine wpE_var 6 rfl ?_ | refine wpE_var 7 rfl ?_ | refine wpE_var 8 rfl ?_ | refine wpE_var 9 rfl ?_ | refine wpE_var 10 rfl ?_ | refine wpE_var 11 rfl ?_ | refine wpE_var 12 rfl ?_ | refine wpE_var 13 rfl ?_) | ((with_reducible show wpE _ _ (.Tuple _ _ _) _ _); refine wpE_tup ?_) | ((with_reducible show wpE _ _ (.List _ _) _ _); refine wpE_lst ?_) | ((with_reducible show wpE _ _ (.BinOp _ .Add _ _) _ _); refine wpE_bin op_addD ok_add ?_) | ((with_reducible show wpE _ _ (.BinOp _ .Sub _ _) _ _); refine wpE_bin op_sub ok_sub ?_) | ((with_reducible show wpE _ _ (.Dict [_, _] _ _) _ _); refine wpE_disp2 ?_) | ((with_reducible show wpE _ _ (.Dict [_] _ _) _ _); refine wpE_disp1 ?_) | with_reducible refine r_d2 (by decide +kernel) ?_ | with_reducible refine r_d1 ?_)
    refine r_pick rfl rfl fun u hu' => ?_
    obtain ⟨o, rfl, ho⟩ : ∃ o : Option Int, u = floorD o ∧ okF o := by
      simp only [List.mem_cons, List.not_mem_nil, or_false] at hu'
      rcases hu' with rfl | rfl | rfl | rfl
      · exact ⟨some 0, rfl, fun x e => by cases e; exact ⟨by omega, by omega⟩⟩
      · exact ⟨some 0, rfl, fun x e => by cases e; exact ⟨by omega, by omega⟩⟩
      · exact ⟨some y, rfl, fun x e => by cases e; exact ⟨by omega, by omega⟩⟩
      · exact ⟨none, rfl, fun x e => by cases e⟩
    refine ⟨fl ++ [o], by rw [List.map_append]; rfl, by rw [List.length_append, hfl]; rfl, fun q hq => ?_⟩
    rcases List.mem_append.mp hq with hq | hq
    · exact hok q hq
    · rw [List.mem_singleton.mp hq]
      exact ho
  obtain ⟨fl, rfl, hfl, hok⟩ := hv
  obtain ⟨f0, f1, rfl⟩ : ∃ f0 f1, fl = [f0, f1] := by
    match fl, hfl with
    | [f0, f1], _ => exact ⟨f0, f1, rfl⟩
  have hf0 := hok f0 List.mem_cons_self
  have hf1 := hok f1 (List.mem_cons_of_mem _ List.mem_cons_self)
  show wpSs _ _ _ [some (.own .feed), some (.d (.int sh)), some (.d (kindsD (carK sh lo))), some (.d (.list [floorD f0, floorD f1])), none, none, none, none, none] _
  refine wpSs_cons (wpS_newLs2 5 (fun a b => ?_) scOK.nd)
  show wpSs _ _ _ [some (.own .feed), some (.d (.int sh)), some (.d (kindsD (carK sh lo))), some (.d (.list [floorD f0, floorD f1])), none, some (.own (.lss [(a, []), (b, [])])), none, none, none] _
  refine wpSs_cons (wpS_for (wpI_range m_range (wpA_cons ?_)) PassesOwn.never rfl)
  refine wpE_take 0 GT hr1 gT kT bT rfl (wpE_int ⟨_, rfl, by decide, by decide, fun n n0 n1 => ?_⟩)
  refine wpA_nil ⟨_, rfl, ⟨by omega, by omega⟩, ?_⟩
  refine ⟨fun i δ' => ∃ (qs : Inners) (ll : List (List Line)) (s4 s6 s7 s8 : Option Sl), LsI (fun _ => i) OneL qs ll ∧ δ' = [some (.own .feed), some (.d (.int sh)), some (.d (kindsD (carK sh lo))), some (.d (.list [floorD f0, floorD f1])), s4, some (.own (.lss qs)), s6, s7, s8],
    ⟨_, [[], []], _, _, _, _, ⟨rfl, rfl, fun j ls e => ?_⟩, rfl⟩, ?_, ?_⟩
  · have : ls = [] := by
      match j, e with
      | 0, e => exact (Option.some.inj e).symm
      | 1, e => exact (Option.some.inj e).symm
    subst this
    exact ⟨Nat.zero_le _, fun _ z => nomatch z⟩
  · rintro i d δ' hd ⟨qs, ll, s4, s6, s7, s8, hI, rfl⟩
    obtain ⟨hi, rfl⟩ := rng_get hd
    have hi6 : i < 6 := by omega
    refine wpG_name 6 ?_ scOK.nd
    show wpSs _ _ _ [some (.own .feed), some (.d (.int sh)), some (.d (kindsD (carK sh lo))), some (.d (.list [floorD f0, floorD f1])), s4, some (.own (.lss qs)), some (.d (.int (i : Nat))), s7, s8] _
    refine wpSs_cons (wpS_own 7 (wpF_lst (wpA_cons ?_)) scOK.nd)
    refine wpE_take 0 GT hr1 gT kT bT rfl (wpE_int ⟨_, rfl, by decide, by decide, fun t0 t00 t01 => ?_⟩)
    refine wpA_nil (r_small rfl ?_)
    show wpSs _ _ _ [some (.own .feed), some (.d (.int sh)), some (.d (kindsD (carK sh lo))), some (.d (.list [floorD f0, floorD f1])), s4, some (.own (.lss qs)), some (.d (.int (i : Nat))), some (.own (.lst [.int t0])), s8] _
    refine wpSs_cons (wpS_append 7 rfl ?_ (hpe := fun a b => pe_bm PySem.F.plainAttrs_list PySem.F.slot_list_append PySem.F.type_list_append mt_append a b))
    refine wpE_bin op_addD ok_add (wpE_bin op_addD ok_add (wpE_lend 7 rfl (wpE_ix (wpE_var 7 rfl (wpE_int ⟨_, rfl, ⟨rfl, ?_⟩⟩)))))
    refine wpE_var 1 rfl (r_addI ?_)
    refine wpE_take 0 GT hr1 gT kT bT rfl ?_
    refine wpE_bin op_addD ok_add (wpE_bin op_sub ok_sub (wpE_ix (wpE_dix hu (wpE_var 2 rfl (wpE_str ⟨.tuple [.int sh, .int lo], rfl, ⟨.inr "car", rfl⟩, wpE_int ⟨_, rfl, ?_⟩⟩)))))
    refine wpE_var 1 rfl (r_subI (wpE_int (r_addI ?_)))
    refine ⟨_, rfl, by omega, by omega, fun tr tr0 tr1 => r_addI ⟨(show 1 < sizeLine by decide), ?_⟩⟩
    obtain ⟨t1, ht1⟩ : ∃ t1 : Int, t1 = t0 + sh + tr := ⟨_, rfl⟩
    rw [← ht1]
    show wpSs _ _ _ [some (.own .feed), some (.d (.int sh)), some (.d (kindsD (carK sh lo))), some (.d (.list [floorD f0, floorD f1])), s4, some (.own (.lss qs)), some (.d (.int (i : Nat))), some (.own (.lst ([.int t0] ++ [.int t1]))), s8] _
    refine wpSs_thaw 7 rfl ?_
    show wpSs _ _ _ [some (.own .feed), some (.d (.int sh)), some (.d (kindsD (carK sh lo))), some (.d (.list [floorD f0, floorD f1])), s4, some (.own (.lss qs)), some (.d (.int (i : Nat))), some (.d (.list [.int t0, .int t1])), s8] _
    refine wpSs_one (wpS_for (wpI_range m_range (wpA_cons (wpE_int (wpA_nil ⟨_, rfl, ⟨by decide, by decide⟩, ?_⟩)))) PassesOwn.never rfl)
    refine ⟨fun g δ' => ∃ (qs : Inners) (ll : List (List Line)) (s4 s8 : Option Sl), LsI (fun j => if j < g then i + 1 else i) OneL qs ll ∧ δ' = [some (.own .feed), some (.d (.int sh)), some (.d (kindsD (carK sh lo))), some (.d (.list [floorD f0, floorD f1])), s4, some (.own (.lss qs)), some (.d (.int (i : Nat))), some (.d (.list [.int t0, .int t1])), s8],
      ⟨qs, ll, s4, s8, hI.mono fun j _ => by rw [if_neg (by omega)]; exact Nat.le_refl _, rfl⟩, ?_, ?_⟩
    · rintro g d δ' hd ⟨qs, ll, s4, s8, hI, rfl⟩
      obtain ⟨hg, rfl⟩ := rng_get hd
      have hg2 : g < 2 := hg
      have hg01 : g = 0 ∨ g = 1 := by omega
      obtain ⟨tg, htg, htg0, htg1⟩ : ∃ tg : Int, atI [(PyData.int t0 : D), .int t1] (g : Nat) = some (.int tg) ∧ 0 ≤ tg ∧ tg ≤ 100 := by
        rcases hg01 with rfl | rfl
        · exact ⟨t0, rfl, by omega, by omega⟩
        · exact ⟨t1, rfl, by omega, by omega⟩
      obtain ⟨fg, hfg⟩ : ∃ fg : Option Int, atI [floorD f0, floorD f1] (g : Nat) = some (floorD fg) := by
        rcases hg01 with rfl | rfl
        · exact ⟨f0, rfl⟩
        · exact ⟨f1, rfl⟩
      obtain ⟨q, ls, hq, hls, hlb, hlp⟩ := hI.get hg2
      have hls20 : ls.length ≤ 20 := by
        have : ls.length ≤ i := by
          have := hlb
          rw [if_neg (Nat.lt_irrefl g)] at this
          exact this
        omega
      refine wpG_name 4 ?_ scOK.nd
      show wpSs _ _ _ [some (.own .feed), some (.d (.int sh)), some (.d (kindsD (carK sh lo))), some (.d (.list [floorD f0, floorD f1])), some (.d (.int (g : Nat))), some (.own (.lss qs)), some (.d (.int (i : Nat))), some (.d (.list [.int t0, .int t1])), s8] _
      have hmono : LsI (fun j => if j < g + 1 then i + 1 else i) OneL qs ll := hI.mono fun j _ => by
        by_cases e : j < g
        · rw [if_pos e, if_pos (by omega)]; exact Nat.le_refl _
        · rw [if_neg e]
          by_cases e2 : j < g + 1
          · rw [if_pos e2]; omega
          · rw [if_neg e2]; exact Nat.le_refl _
      refine wpSs_one (wpS_if (wpT_mono (P := fun _ => True) (wpT_W ?_) fun k _ => ?_))
      · refine wpW_or (wpT_cmp (op_eqDD hr.units) ok_eq (nomark _) (wpE_ix (wpE_var 3 rfl (wpE_var 4 rfl ⟨_, hfg, wpE_str ?_⟩))))
        cases fg with
        | none => exact ⟨true, rfl, iteT trivial⟩
        | some x =>
          refine ⟨false, rfl, iteF ?_⟩
          refine wpW_or (wpT_cmp op_lt ok_lt (nomark _) (wpE_ix (wpE_var 7 rfl (wpE_var 4 rfl ⟨_, htg, wpE_ix (wpE_var 3 rfl (wpE_var 4 rfl ⟨_, hfg, r_lt ⟨_, rfl, ?_⟩⟩))⟩))))
          cases decide (tg < x) with
          | true => exact iteT trivial
          | false => exact iteF (wpW_or1 (wpT_cmp op_gt ok_lt (nomark _) (wpE_take 0 GT hr1 gT kT bT rfl (wpE_int ⟨_, rfl, by decide, by decide, fun y y0 y1 => wpE_int (r_lt ⟨_, rfl, trivial⟩)⟩))))
      · cases k with
        | false => exact iteF (wpSs_nil ⟨qs, ll, _, _, hmono, rfl⟩)
        | true =>
          refine iteT (wpSs_cons (wpS_set 8 ?_ scOK.nd))
          refine wpE_take 0 GT hr1 gT kT bT rfl (wpE_bin op_addD ok_add (wpE_lendLs 5 rfl (wpE_callB call_lenX ok_len m_len boot_len' (wpA_cons (wpE_ix (wpE_var 5 rfl (wpE_var 4 rfl ⟨_, hI.at hq, wpA_nil ⟨(fun _ z => nomatch z), r_lenL ⟨rfl, ?_⟩⟩⟩)))))))
          rw [List.length_map]
          refine wpE_int (r_addI ⟨_, rfl, by omega, by omega, fun pz pz0 pz1 => ?_⟩)
          obtain ⟨pk, rfl⟩ := Int.eq_ofNat_of_zero_le pz0
          show wpSs _ _ _ [some (.own .feed), some (.d (.int sh)), some (.d (kindsD (carK sh lo))), some (.d (.list [floorD f0, floorD f1])), some (.d (.int (g : Nat))), some (.own (.lss qs)), some (.d (.int (i : Nat))), some (.d (.list [.int t0, .int t1])), some (.d (.int (pk : Nat)))] _
          refine wpSs_one (wpS_methLs effInsert 5 rfl eff_insert (wpE_var 4 rfl ⟨g, q, _, rfl, hq, ?_⟩) (hpe := fun a b => pe_bm PySem.F.plainAttrs_list PySem.F.slot_list_insert PySem.F.type_list_insert mt_insert a b))
          refine wpA_cons (wpE_var 8 rfl (wpA_cons (wpE_tup (wpA_cons (wpE_ix (wpE_var 7 rfl (wpE_var 4 rfl ⟨_, htg, ?_⟩)))))))
          refine wpA_cons (wpE_pick 0 GP hr gP kP bP rfl ?_)
          repeat (first | ((with_reducible show wpA _ _ (_ :: _) _ _); refine wpA_cons ?_) | with_reducible refine wpA_nil ?_ | with_reducible refine wpE_int ?_ | with_reducible refine wpE_none ?_ | with_reducible refine wpE_bool ?_ | with_reducible refine wpE_str ?_ | with_reducible refine r_addI ?_ | with_reducible refine r_subI ?_ | with_reducible refine r_small (by with_unfolding_all rfl) ?_ | with_reducible refine r_addL (by with_unfolding_all rfl) ?_ | ((with_reducible show wpE _ _ (.Name _ _) _ _); first | refine wpE_var 0 rfl ?_ | refine wpE_var 1 rfl ?_ | refine wpE_var 2 rfl ?_ | refine wpE_var 3 rfl ?_ | refine wpE_var 4 rfl ?_ | refine wpE_var 5 rfl ?_ | refine wpE_var 6 rfl ?_ | refine wpE_var 7 rfl ?_ | refine wpE_var 8 rfl ?_ | refine wpE_var 9 rfl ?_ | refine wpE_var 10 rfl ?_ | refine wpE_var 11 rfl ?_ | refine wpE_var 12 rfl ?_ | refine wpE_var 13 rfl ?_) | ((with_reducible show wpE _ _ (.Tuple _ _ _) _ _); refine wpE_tup ?_) | ((with_reducible show wpE _ _ (.List _ _) _ _); refine wpE_lst ?_) | ((with_reducible show wpE _ _ (.BinOp _ .Add _ _) _ _); refine wpE_bin op_addD ok_add ?_) | ((with_reducible show wpE _ _ (.BinOp _ .Sub _ _) _ _); refine wpE_bin op_sub ok_sub ?_) | ((with_reducible show wpE _ _ (.Dict [_, _] _ _) _ _); refine wpE_disp2 ?_) | ((with_reducible show wpE _ _ (.Dict [_] _ _) _ _); refine wpE_disp1 ?_) | with_reducible refine r_d2 (by decide +kernel) ?_ | with_reducible refine r_d1 ?_)
          refine r_pick rfl rfl fun y hy => ?_
          obtain ⟨kd, rfl, hkd⟩ : ∃ kd : Option Str, y = oS kd ∧ (kd = none ∨ kd = some carN) := by
            simp only [List.mem_cons, List.not_mem_nil, or_false] at hy
            rcases hy with rfl | rfl
            · exact ⟨some carN, rfl, .inr rfl⟩
            · exact ⟨none, rfl, .inl rfl⟩
          repeat (first | ((with_reducible show wpA _ _ (_ :: _) _ _); refine wpA_cons ?_) | with_reducible refine wpA_nil ?_ | with_reducible refine wpE_int ?_ | with_reducible refine wpE_none ?_ | with_reducible refine wpE_bool ?_ | with_reducible refine wpE_str ?_ | with_reducible refine r_addI ?_ | with_reducible refine r_subI ?_ | with_reducible refine r_small (by with_unfolding_all rfl) ?_ | with_reducible refine r_addL (by with_unfolding_all rfl) ?_ | ((with_reducible show wpE _ _ (.Name _ _) _ _); first | refine wpE_var 0 rfl ?_ | refine wpE_var 1 rfl ?_ | refine wpE_var 2 rfl ?_ | refine wpE_var 3 rfl ?_ | refine wpE_var 4 rfl ?_ | refine wpE_var 5 rfl ?_ | refine wpE_var 6 rfl ?_ | refine wpE_var 7 rfl ?_ | refine wpE_var 8 rfl ?_ | refine wpE_var 9 rfl ?_ | refine wpE_var 10 rfl ?_ | refine wpE_var 11 rfl ?_ | refine wpE_var 12 rfl ?_ | refine wpE_var 13 rfl ?_) | ((with_reducible show wpE _ _ (.Tuple _ _ _) _ _); refine wpE_tup ?_) | ((with_reducible show wpE _ _ (.List _ _) _ _); refine wpE_lst ?_) | ((with_reducible show wpE _ _ (.BinOp _ .Add _ _) _ _); refine wpE_bin op_addD ok_add ?_) | ((with_reducible show wpE _ _ (.BinOp _ .Sub _ _) _ _); refine wpE_bin op_sub ok_sub ?_) | ((with_reducible show wpE _ _ (.Dict [_, _] _ _) _ _); refine wpE_disp2 ?_) | ((with_reducible show wpE _ _ (.Dict [_] _ _) _ _); refine wpE_disp1 ?_) | with_reducible refine r_d2 (by decide +kernel) ?_ | with_reducible refine r_d1 ?_)
          refine ⟨_, ⟨pk, lineD ⟨tg, kd, none⟩, rfl, ?_, by omega, (map_ins lineD ls pk ⟨tg, kd, none⟩).symm⟩, ?_⟩
          · rw [List.length_map]
            exact Nat.lt_of_le_of_lt (Nat.le_trans hls20 (by decide : 20 ≤ 1000)) (by decide)
          · refine ⟨_, ll.set g (ls.take pk ++ [⟨tg, kd, none⟩] ++ ls.drop pk), _, _, hI.set rfl (fun j _ hj => ?_) ?_ fun l hl' => ?_, rfl⟩
            · by_cases e : j < g
              · rw [if_pos e, if_pos (by omega)]; exact Nat.le_refl _
              · rw [if_neg e, if_neg (by omega)]; exact Nat.le_refl _
            · rw [len_ins, if_pos (Nat.lt_succ_self g)]
              rw [if_neg (Nat.lt_irrefl g)] at hlb
              omega
            · rcases mem_ins hl' with h | rfl
              · exact hlp l h
              · exact ⟨hkd, rfl, htg0, htg1⟩
    · rintro δ' ⟨qs, ll, s4, s8, hI, rfl⟩
      exact ⟨qs, ll, _, _, _, _, hI.mono fun j hj => (by split <;> omega), rfl⟩
  · rintro δ' ⟨qs, ll, s4, s6, s7, s8, hI, rfl⟩
    rw [List.length_map, List.length_range] at hI
    obtain ⟨en, ex', eD, l1, l2, p1, p2⟩ := hI.two'
    refine wpSs_thawLs 5 rfl ?_
    rw [eD]
    show wpSs _ _ _ [some (.own .feed), some (.d (.int sh)), some (.d (kindsD (carK sh lo))), some (.d (.list [floorD f0, floorD f1])), s4, some (.d (.list [.list (en.map lineD), .list (ex'.map lineD)])), s6, s7, s8] _
    refine wpSs_one (wpS_ret ?_)
    repeat (first | ((with_reducible show wpA _ _ (_ :: _) _ _); refine wpA_cons ?_) | with_reducible refine wpA_nil ?_ | with_reducible refine wpE_int ?_ | with_reducible refine wpE_none ?_ | with_reducible refine wpE_bool ?_ | with_reducible refine wpE_str ?_ | with_reducible refine r_addI ?_ | with_reducible refine r_subI ?_ | with_reducible refine r_small (by with_unfolding_all rfl) ?_ | with_reducible refine r_addL (by with_unfolding_all rfl) ?_ | ((with_reducible show wpE _ _ (.Name _ _) _ _); first | refine wpE_var 0 rfl ?_ | refine wpE_var 1 rfl ?_ | refine wpE_var 2 rfl ?_ | refine wpE_var 3 rfl ?_ | refine wpE_var 4 rfl ?_ | refine wpE_var 5 rfl ?_ | refine wpE_var 6 rfl ?_ | refine wpE_var 7 rfl ?_ | refine wpE_var 8 rfl ?_ | refine wpE_var 9 rfl ?_ | refine wpE_var 10 rfl ?_ | refine wpE_var 11 rfl ?_ | refine wpE_var 12 rfl ?_ | refine wpE_var 13 rfl ?_) | ((with_reducible show wpE _ _ (.Tuple _ _ _) _ _); refine wpE_tup ?_) | ((with_reducible show wpE _ _ (.List _ _) _ _); refine wpE_lst ?_) | ((with_reducible show wpE _ _ (.BinOp _ .Add _ _) _ _); refine wpE_bin op_addD ok_add ?_) | ((with_reducible show wpE _ _ (.BinOp _ .Sub _ _) _ _); refine wpE_bin op_sub ok_sub ?_) | ((with_reducible show wpE _ _ (.Dict [_, _] _ _) _ _); refine wpE_disp2 ?_) | ((with_reducible show wpE _ _ (.Dict [_] _ _) _ _); refine wpE_disp1 ?_) | with_reducible refine r_d2 (by decide +kernel) ?_ | with_reducible refine r_d1 ?_)
    refine wpE_ix (wpE_var 5 rfl (wpE_int ⟨_, rfl, ?_⟩))
    refine wpA_cons (wpE_ix (wpE_var 5 rfl (wpE_int ⟨_, rfl, ?_⟩)))
    refine wpA_cons (wpE_ix (wpE_var 3 rfl (wpE_int ⟨_, rfl, ?_⟩)))
    refine wpA_cons (wpE_ix (wpE_var 3 rfl (wpE_int ⟨_, rfl, ?_⟩)))
    repeat (first | ((with_reducible show wpA _ _ (_ :: _) _ _); refine wpA_cons ?_) | with_reducible refine wpA_nil ?_ | with_reducible refine wpE_int ?_ | with_reducible refine wpE_none ?_ | with_reducible refine wpE_bool ?_ | with_reducible refine wpE_str ?_ | with_reducible refine r_addI ?_ | with_reducible refine r_subI ?_ | with_reducible refine r_small (by with_unfolding_all rfl) ?_ | with_reducible refine r_addL (by with_unfolding_all rfl) ?_ | ((with_reducible show wpE _ _ (.Name _ _) _ _); first | refine wpE_var 0 rfl ?_ | refine wpE_var 1 rfl ?_ | refine wpE_var 2 rfl ?_ | refine wpE_var 3 rfl ?_ | refine wpE_var 4 rfl ?_ | refine wpE_var 5 rfl ?_ | refine wpE_var 6 rfl ?_ | refine wpE_var 7 rfl ?_ | refine wpE_var 8 rfl ?_ | refine wpE_var 9 rfl ?_ | refine wpE_var 10 rfl ?_ | refine wpE_var 11 rfl ?_ | refine wpE_var 12 rfl ?_ | refine wpE_var 13 rfl ?_) | ((with_reducible show wpE _ _ (.Tuple _ _ _) _ _); refine wpE_tup ?_) | ((with_reducible show wpE _ _ (.List _ _) _ _); refine wpE_lst ?_) | ((with_reducible show wpE _ _ (.BinOp _ .Add _ _) _ _); refine wpE_bin op_addD ok_add ?_) | ((with_reducible show wpE _ _ (.BinOp _ .Sub _ _) _ _); refine wpE_bin op_sub ok_sub ?_) | ((with_reducible show wpE _ _ (.Dict [_, _] _ _) _ _); refine wpE_disp2 ?_) | ((with_reducible show wpE _ _ (.Dict [_] _ _) _ _); refine wpE_disp1 ?_) | with_reducible refine r_d2 (by decide +kernel) ?_ | with_reducible refine r_d1 ?_)
    exact ⟨sh, lo, ⟨en, ex', f0, f1⟩, rfl, sh0, by omega, by omega, p1, p2, Nat.le_trans l1 (by show n.toNat ≤ 6; omega), Nat.le_trans l2 (by show n.toNat ≤ 6; omega), hf0, hf1⟩
end
end K31

set_option Elab.async false
set_option linter.all false
set_option maxRecDepth 100000
set_option maxHeartbeats 1000000
namespace K31
open PySem PySem.Spec L2 DL
theorem look_in {ks : Kinds} {k : Str} (h : k ∈ ks.map (·.1)) : ∃ v, look ks k = some v ∧ (k, v) ∈ ks := by
  have := look_mem h
  unfold look at this ⊢
  cases e : ks.find? (fun p => p.1 == k) with
  | none => rw [e] at this; cases this
  | some p =>
    have h1 := List.mem_of_find?_eq_some e
    have h2 := List.find?_some e
    have h3 : p.1 = k := eq_of_beq h2
    refine ⟨p.2, rfl, ?_⟩
    rw [← h3]
    exact h1
theorem nd_lines : ∀ ls : List Line, ndA (ls.map lineD) = true
  | [] => rfl
  | l :: r => by
    rw [List.map_cons]
    unfold ndA
    rw [nd_lines r, Bool.and_true]
    obtain ⟨t, k, p⟩ := l
    cases k <;> cases p <;> rfl
theorem pl_lines : ∀ ls : List Line, PyData.plainAll (ls.map lineD) = true
  | [] => rfl
  | l :: r => by
    rw [List.map_cons]
    unfold PyData.plainAll
    rw [pl_lines r, Bool.and_true]
    obtain ⟨t, k, p⟩ := l
    cases k <;> cases p <;> rfl
theorem map_erase {α β : Type} (f : α → β) : ∀ (xs : List α) (k : Nat), (xs.map f).eraseIdx k = (xs.eraseIdx k).map f
  | [], _ => rfl
  | _ :: _, 0 => rfl
  | x :: xs, k + 1 => by
    show f x :: (xs.map f).eraseIdx k = f x :: (xs.eraseIdx k).map f
    rw [map_erase f xs k]
theorem boot_sorted' : bootBuiltins "sorted" = some (.builtin "sorted") := by decide +kernel
abbrev Any (_ : Line) : Prop := True
section
variable {P : Program} {w : World} {K : PySem.W.Frag} {mg : Str → Option Value} {base : Heap} {Tb : List Addr}
abbrev nLg : List Str := ["feed", "kinds", "most", "floors", "gate", "lines", "vehicle", "name", "times", "plate", "may_lack", "place", "change"]
theorem scLg : FnScope nLg ["feed", "kinds", "most"] (defScope sLog) := ⟨rfl, rfl, rfl, by decide +kernel, rfl, by decide +kernel, by decide +kernel⟩
abbrev GLog (P : Program) (w : World) (K : PySem.W.Frag) (mg : Str → Option Value) (base : Heap) (Tb : List Addr) (f : Addr) (fd : FuncData) : Prop := FnOk P w K mg base CX0 4 f fd ["feed", "kinds", "most"] (spD Tb 1 2 (fun ds => ∃ ks : Kinds, ds = [kindsD ks, .int 5] ∧ GoodK ks) fun _ d => ∃ lg : Log, d = logD lg ∧ lg.entries.length ≤ 6 ∧ lg.exits.length ≤ 6)
theorem pick_name {ks : Kinds} (hk : GoodK ks) {P : D → Prop} (h : ∀ k, k ∈ ks.map (·.1) → P (.str k)) : sortR [kindsD ks] fun d => ∃ xs : List D, d = .list xs ∧ xs ≠ [] ∧ xs.length < 1073741824 ∧ ∀ z ∈ xs, P z := by
  refine ⟨_, ks.map (·.1), rfl, keys_kinds ks, ?_, fun ys hys => ?_⟩
  · rw [List.length_map]
    have := hk.len
    omega
  have hyl : ys.length = ks.length := by rw [hys.length_eq, List.length_map]
  have hks : 0 < ks.length := List.length_pos_iff.mpr hk.ne
  refine ⟨_, rfl, ?_, ?_, fun y hy => ?_⟩
  · intro e
    have := congrArg List.length e
    rw [List.length_map, hyl] at this
    change _ = 0 at this
    omega
  · rw [List.length_map, hyl]
    have := hk.len
    omega
  · obtain ⟨k, hk', rfl⟩ := List.mem_map.mp hy
    exact h k (hys.mem_iff.mp hk')
theorem ok_log {f c : Addr} {fd : FuncData} (F : FunC K "_law_log" "_law_log" sLog f c fd) (m_range : mg "range" = none) (m_len : mg "len" = none) (m_sorted : mg "sorted" = none)
    {fT : Addr} {fdT : FuncData} (GT : GTake P w K mg base Tb fT fdT) (gT : mg "_law_take" = some (.ref fT)) (kT : PySem.W.keepIn K (.ref fT) = true) (bT : Binds K fdT ["feed", "size"] [])
    {fP : Addr} {fdP : FuncData} (GP : GPick P w K mg base Tb fP fdP) (gP : mg "_law_pick" = some (.ref fP)) (kP : PySem.W.keepIn K (.ref fP) = true) (bP : Binds K fdP ["feed", "choices"] [])
    {fL : Addr} {fdL : FuncData} (GL : GLine P w K mg base Tb fL fdL) (gL : mg "_law_line" = some (.ref fL)) (kL : PySem.W.keepIn K (.ref fL) = true) (bL : Binds K fdL ["feed", "time", "name", "plate"] []) :
    GLog P w K mg base Tb f fd := by
  refine fn_ok F scLg (by decide) rfl fun A outer s H E ds hr hl hp => ?_
  obtain ⟨ks, rfl, hk⟩ := hp
  have hr1 : Room 1 (A.deeper (PyProof.Rows.envOfC "_law_log" (defScope sLog) s.heap.objs.size f (.ref c))) := hr.mono (by decide)
  have hr2 : Room 2 (A.deeper (PyProof.Rows.envOfC "_law_log" (defScope sLog) s.heap.objs.size f (.ref c))) := hr.mono (by decide)
  have hu : (A.deeper (PyProof.Rows.envOfC "_law_log" (defScope sLog) s.heap.objs.size f (.ref c))).units + 1 < cLine := by have := hr.un; omega
  show wpSs _ _ _ [some (.own .feed), some (.d (kindsD ks)), some (.d (.int 5)), none, none, none, none, none, none, none, none, none, none] _
  refine wpSs_cons (wpS_setLc (c := none) 3 4 rfl (wpI_range m_range (wpA_cons (wpE_int (wpA_nil ⟨_, rfl, ⟨by decide, by decide⟩, ?_⟩)))) rfl scLg.nd (blkOk_by (N := nLg) (sc := defScope sLog) (by decide +kernel)) rfl)
  refine ⟨by decide, fun i acc => ∃ fl : List (Option Int), acc = fl.map floorD ∧ fl.length = i, ⟨[], rfl, rfl⟩, fun i d acc hd hv z H C cl fp => ?_, fun acc hv => ?_⟩
  · obtain ⟨fl, rfl, hfl⟩ := hv
    refine wpE_pick 0 GP hr2 gP kP bP rfl ?_
    repeat (first | ((with_reducible show wpA _ _ (_ :: _) _ _); refine wpA_cons ?_) | with_reducible refine wpA_nil ?_ | with_reducible refine wpE_int ?_ | with_reducible refine wpE_none ?_ | with_reducible refine wpE_bool ?_ | with_reducible refine wpE_str ?_ | with_reducible refine r_addI ?_ | with_reducible refine r_subI ?_ | with_reducible refine r_small (by with_unfolding_all rfl) ?_ | with_reducible refine r_addL (by with_unfolding_all rfl) ?_ | ((with_reducible show wpE _ _ (.Name _ _) _ _); first | refine wpE_var 0 rfl ?_ | refine wpE_var 1 rfl ?_ | refine wpE_var 2 rfl ?_ | refine wpE_var 3 rfl ?_ | refine wpE_var 4 rfl ?_ | refine wpE_var 5 rfl ?_ | refine wpE_var 6 rfl ?_ | refine wpE_var 7 rfl ?_ | refine wpE_var 8 rfl ?_ | refine wpE_var 9 rfl ?_ | refine wpE_var 10 rfl ?_ | refine wpE_var 11 rfl ?_ | refine wpE_var 12 rfl ?_ | refine wpE_var 13 rfl ?_) | ((with_reducible show wpE _ _ (.Tuple _ _ _) _ _); refine wpE_tup ?_) | ((with_reducible show wpE _ _ (.List _ _) _ _); refine wpE_lst ?_) | ((with_reducible show wpE _ _ (.BinOp _ .Add _ _) _ _); refine wpE_bin op_addD ok_add ?_) | ((with_reducible show wpE _ _ (.BinOp _ .Sub _ _) _ _); refine wpE_bin op_sub ok_sub ?_) | ((with_reducible show wpE _ _ (.Dict [_, _] _ _) _ _); refine wpE_disp2 ?_) | ((with_reducible show wpE _ _ (.Dict [_] _ _) _ _); refine wpE_disp1 ?_) | with_reducible refine r_d2 (by decide +kernel) ?_ | with_reducible refine r_d1 ?_)
    refine wpE_take 0 GT hr1 gT kT bT rfl (wpE_int ⟨_, rfl, by decide, by decide, fun y y0 y1 => ?_⟩)
    repeat (first | ((with_reducible show wpA _ _ (_ :: _) _ _); refine wpA_cons ?_) | with_reducible refine wpA_nil ?_ | with_reducible refine wpE_int ?_ | with_reducible refine wpE_none ?_ | with_reducible refine wpE_bool ?_ | with_reducible refine wpE_str ?_ | with_reducible refine r_addI ?_ | with_reducible refine r_subI ?_ | with_reducible refine r_small (by with_unfolding_all rfl) ?_ | with_reducible refine r_addL (by with_unfolding_all rfl) ?_ | ((with_reducible show wpE _ _ (.Name _ _) _ _); first | refine wpE_var 0 rfl ?_ | refine wpE_var 1 rfl ?_ | refine wpE_var 2 rfl ?_ | refine wpE_var 3 rfl ?_ | refine wpE_var 4 rfl ?_ | refine wpE_var 5 rfl ?_ | refine wpE_var 6 rfl ?_ | refine wpE_var 7 rfl ?_ | refine wpE_var 8 rfl ?_ | refine wpE_var 9 rfl ?_ | refine wpE_var 10 rfl ?_ | refine wpE_var 11 rfl ?_ | refine wpE_var 12 rfl ?_ | refine wpE_var 13 rfl ?_) | ((with_reducible show wpE _ _ (.Tuple _ _ _) _ _); refine wpE_tup ?_) | ((with_reducible show wpE _ _ (.List _ _) _ _); refine wpE_lst ?_) | ((with_reducible show wpE _ _ (.BinOp _ .Add _ _) _ _); refine wpE_bin op_addD ok_add ?_) | ((with_reducible show wpE _ _ (.BinOp _ .Sub _ _) _ _); refine wpE_bin op_sub ok_sub ?_) | ((with_reducible show wpE _ _ (.Dict [_, _] _ _) _ _); refine wpE_disp2 ?_) | ((with_reducible show wpE _ _ (.Dict [_] _ _) _ _); refine wpE_disp1 ?_) | with_reducible refine r_d2 (by decide +kernel) ?_ | with_reducible refine r_d1 ?_)
    refine wpE_take 0 GT hr1 gT kT bT rfl (wpE_int ⟨_, rfl, by decide, by decide, fun y2 y20 y21 => ?_⟩)
    repeat (first | ((with_reducible show wpA _ _ (_ :: _) _ _); refine wpA_cons ?_) | with_reducible refine wpA_nil ?_ | with_reducible refine wpE_int ?_ | with_reducible refine wpE_none ?_ | with_reducible refine wpE_bool ?_ | with_reducible refine wpE_str ?_ | with_reducible refine r_addI ?_ | with_reducible refine r_subI ?_ | with_reducible refine r_small (by with_unfolding_all rfl) ?_ | with_reducible refine r_addL (by with_unfolding_all rfl) ?_ | ((with_reducible show wpE _ _ (.Name _ _) _ _); first | refine wpE_var 0 rfl ?_ | refine wpE_var 1 rfl ?_ | refine wpE_var 2 rfl ?_ | refine wpE_var 3 rfl ?_ | refine wpE_var 4 rfl ?_ | refine wpE_var 5 rfl ?_ | refine wpE_var 6 rfl ?_ | refine wpE_var 7 rfl ?_ | refine wpE_var 8 rfl ?_ | refine wpE_var 9 rfl ?_ | refine wpE_var 10 rfl ?_ | refine wpE_var 11 rfl ?_ | refine wpE_var 12 rfl ?_ | refine wpE_var 13 rfl ?_) | ((with_reducible show wpE _ _ (.Tuple _ _ _) _ _); refine wpE_tup ?_) | ((with_reducible show wpE _ _ (.List _ _) _ _); refine wpE_lst ?_) | ((with_reducible show wpE _ _ (.BinOp _ .Add _ _) _ _); refine wpE_bin op_addD ok_add ?_) | ((with_reducible show wpE _ _ (.BinOp _ .Sub _ _) _ _); refine wpE_bin op_sub ok_sub ?_) | ((with_reducible show wpE _ _ (.Dict [_, _] _ _) _ _); refine wpE_disp2 ?_) | ((with_reducible show wpE _ _ (.Dict [_] _ _) _ _); refine wpE_disp1 ?_) | with_reducible refine r_d2 (by decide +kernel) ?_ | with_reducible refine r_d1 ?_)
    refine r_pick rfl rfl fun u hu' => ?_
    obtain ⟨o, rfl⟩ : ∃ o : Option Int, u = floorD o := by
      simp only [List.mem_cons, List.not_mem_nil, or_false] at hu'
      rcases hu' with rfl | rfl | rfl | rfl
      · exact ⟨some 0, rfl⟩
      · exact ⟨some y, rfl⟩
      · exact ⟨some y2, rfl⟩
      · exact ⟨none, rfl⟩
    exact ⟨fl ++ [o], by rw [List.map_append]; rfl, by rw [List.length_append, hfl]; rfl⟩
  obtain ⟨fl, rfl, hfl⟩ := hv
  obtain ⟨f0, f1, rfl⟩ : ∃ f0 f1, fl = [f0, f1] := by
    match fl, hfl with
    | [f0, f1], _ => exact ⟨f0, f1, rfl⟩
  show wpSs _ _ _ [some (.own .feed), some (.d (kindsD ks)), some (.d (.int 5)), some (.d (.list [floorD f0, floorD f1])), none, none, none, none, none, none, none, none, none] _
  refine wpSs_cons (wpS_newLs2 5 (fun a b => ?_) scLg.nd)
  show wpSs _ _ _ [some (.own .feed), some (.d (kindsD ks)), some (.d (.int 5)), some (.d (.list [floorD f0, floorD f1])), none, some (.own (.lss [(a, []), (b, [])])), none, none, none, none, none, none, none] _
  refine wpSs_cons (wpS_for (wpI_range m_range (wpA_cons ?_)) PassesOwn.never rfl)
  refine wpE_take 0 GT hr1 gT kT bT rfl (wpE_bin op_addD ok_add (wpE_var 2 rfl (wpE_int (r_addI ⟨_, rfl, by decide, by decide, fun n n0 n1 => ?_⟩))))
  refine wpA_nil ⟨_, rfl, ⟨by omega, by omega⟩, ?_⟩
  refine ⟨fun i δ' => ∃ (qs : Inners) (ll : List (List Line)) (s4 s6 s7 s8 s9 s10 s11 : Option Sl), LsI (fun _ => i) Any qs ll ∧ δ' = [some (.own .feed), some (.d (kindsD ks)), some (.d (.int 5)), some (.d (.list [floorD f0, floorD f1])), s4, some (.own (.lss qs)), s6, s7, s8, s9, s10, s11, none],
    ⟨_, [[], []], _, _, _, _, _, _, _, ⟨rfl, rfl, fun j ls e => ?_⟩, rfl⟩, ?_, ?_⟩
  · have : ls = [] := by
      match j, e with
      | 0, e => exact (Option.some.inj e).symm
      | 1, e => exact (Option.some.inj e).symm
    subst this
    exact ⟨Nat.zero_le _, fun _ z => nomatch z⟩
  · rintro i d δ' hd ⟨qs, ll, s4, s6, s7, s8, s9, s10, s11, hI, rfl⟩
    obtain ⟨hi, rfl⟩ := rng_get hd
    have hi6 : i < 6 := by omega
    refine wpG_name 6 ?_ scLg.nd
    show wpSs _ _ _ [some (.own .feed), some (.d (kindsD ks)), some (.d (.int 5)), some (.d (.list [floorD f0, floorD f1])), s4, some (.own (.lss qs)), some (.d (.int (i : Nat))), s7, s8, s9, s10, s11, none] _
    refine wpSs_cons (wpS_set 7 ?_ scLg.nd)
    refine wpE_pick 0 GP hr2 gP kP bP rfl (wpE_callB (call_sortedD rfl) ok_sortD m_sorted boot_sorted' (wpA_cons (wpE_var 1 rfl (wpA_nil (pick_name hk fun nm hnm => ?_)))))
    obtain ⟨⟨lo, hi'⟩, hlook, hmem⟩ := look_in hnm
    obtain ⟨v0, v1, v2⟩ := hk.tv _ hmem
    change 0 ≤ lo at v0
    change lo ≤ hi' at v1
    change hi' ≤ 20 at v2
    have hdl : dlook (.str nm) (ks.map fun k => (.str k.1, .tuple [.int k.2.1, .int k.2.2])) = some (.tuple [.int lo, .int hi']) := by rw [dlook_kinds, hlook]; rfl
    show wpSs _ _ _ [some (.own .feed), some (.d (kindsD ks)), some (.d (.int 5)), some (.d (.list [floorD f0, floorD f1])), s4, some (.own (.lss qs)), some (.d (.int (i : Nat))), some (.d (.str nm)), s8, s9, s10, s11, none] _
    refine wpSs_cons (wpS_own 8 (wpF_lst (wpA_cons ?_)) scLg.nd)
    refine wpE_take 0 GT hr1 gT kT bT rfl (wpE_int ⟨_, rfl, by decide, by decide, fun t0 t00 t01 => ?_⟩)
    refine wpA_nil (r_small rfl ?_)
    show wpSs _ _ _ [some (.own .feed), some (.d (kindsD ks)), some (.d (.int 5)), some (.d (.list [floorD f0, floorD f1])), s4, some (.own (.lss qs)), some (.d (.int (i : Nat))), some (.d (.str nm)), some (.own (.lst [.int t0])), s9, s10, s11, none] _
    refine wpSs_cons (wpS_append 8 rfl ?_ (hpe := fun a b => pe_bm PySem.F.plainAttrs_list PySem.F.slot_list_append PySem.F.type_list_append mt_append a b))
    refine wpE_bin op_addD ok_add (wpE_bin op_addD ok_add (wpE_lend 8 rfl (wpE_ix (wpE_var 8 rfl (wpE_int ⟨_, rfl, ⟨rfl, ?_⟩⟩)))))
    refine wpE_ix (wpE_dix hu (wpE_var 1 rfl (wpE_var 7 rfl ⟨_, hdl, ⟨.inr nm, rfl⟩, wpE_int ⟨_, rfl, r_addI ?_⟩⟩)))
    refine wpE_take 0 GT hr1 gT kT bT rfl ?_
    refine wpE_bin op_addD ok_add (wpE_bin op_sub ok_sub (wpE_ix (wpE_dix hu (wpE_var 1 rfl (wpE_var 7 rfl ⟨_, hdl, ⟨.inr nm, rfl⟩, wpE_int ⟨_, rfl, ?_⟩⟩)))))
    refine wpE_ix (wpE_dix hu (wpE_var 1 rfl (wpE_var 7 rfl ⟨_, hdl, ⟨.inr nm, rfl⟩, wpE_int ⟨_, rfl, r_subI ?_⟩⟩)))
    refine wpE_int (r_addI ⟨_, rfl, by omega, by omega, fun tr tr0 tr1 => r_addI ⟨(show 1 < sizeLine by decide), ?_⟩⟩)
    obtain ⟨t1, ht1⟩ : ∃ t1 : Int, t1 = t0 + lo + tr := ⟨_, rfl⟩
    rw [← ht1]
    show wpSs _ _ _ [some (.own .feed), some (.d (kindsD ks)), some (.d (.int 5)), some (.d (.list [floorD f0, floorD f1])), s4, some (.own (.lss qs)), some (.d (.int (i : Nat))), some (.d (.str nm)), some (.own (.lst ([.int t0] ++ [.int t1]))), s9, s10, s11, none] _
    refine wpSs_thaw 8 rfl ?_
    show wpSs _ _ _ [some (.own .feed), some (.d (kindsD ks)), some (.d (.int 5)), some (.d (.list [floorD f0, floorD f1])), s4, some (.own (.lss qs)), some (.d (.int (i : Nat))), some (.d (.str nm)), some (.d (.list [.int t0, .int t1])), s9, s10, s11, none] _
    refine wpSs_cons (wpS_set 9 ?_ scLg.nd)
    refine wpE_pick 0 GP hr2 gP kP bP rfl ?_
    repeat (first | ((with_reducible show wpA _ _ (_ :: _) _ _); refine wpA_cons ?_) | with_reducible refine wpA_nil ?_ | with_reducible refine wpE_int ?_ | with_reducible refine wpE_none ?_ | with_reducible refine wpE_bool ?_ | with_reducible refine wpE_str ?_ | with_reducible refine r_addI ?_ | with_reducible refine r_subI ?_ | with_reducible refine r_small (by with_unfolding_all rfl) ?_ | with_reducible refine r_addL (by with_unfolding_all rfl) ?_ | ((with_reducible show wpE _ _ (.Name _ _) _ _); first | refine wpE_var 0 rfl ?_ | refine wpE_var 1 rfl ?_ | refine wpE_var 2 rfl ?_ | refine wpE_var 3 rfl ?_ | refine wpE_var 4 rfl ?_ | refine wpE_var 5 rfl ?_ | refine wpE_var 6 rfl ?_ | refine wpE_var 7 rfl ?_ | refine wpE_var 8 rfl ?_ | refine wpE_var 9 rfl ?_ | refine wpE_var 10 rfl ?_ | refine wpE_var 11 rfl ?_ | refine wpE_var 12 rfl ?_ | refine wpE_var 13 rfl ?_) | ((with_reducible show wpE _ _ (.Tuple _ _ _) _ _); refine wpE_tup ?_) | ((with_reducible show wpE _ _ (.List _ _) _ _); refine wpE_lst ?_) | ((with_reducible show wpE _ _ (.BinOp _ .Add _ _) _ _); refine wpE_bin op_addD ok_add ?_) | ((with_reducible show wpE _ _ (.BinOp _ .Sub _ _) _ _); refine wpE_bin op_sub ok_sub ?_) | ((with_reducible show wpE _ _ (.Dict [_, _] _ _) _ _); refine wpE_disp2 ?_) | ((with_reducible show wpE _ _ (.Dict [_] _ _) _ _); refine wpE_disp1 ?_) | with_reducible refine r_d2 (by decide +kernel) ?_ | with_reducible refine r_d1 ?_)
    refine r_pick rfl rfl fun u hu' => ?_
    obtain ⟨pl, rfl⟩ : ∃ pl : Option Str, u = oS pl := by
      simp only [List.mem_cons, List.not_mem_nil, or_false] at hu'
      rcases hu' with rfl | rfl | rfl | rfl
      · exact ⟨none, rfl⟩
      · exact ⟨none, rfl⟩
      · exact ⟨some "A1", rfl⟩
      · exact ⟨some "B2", rfl⟩
    show wpSs _ _ _ [some (.own .feed), some (.d (kindsD ks)), some (.d (.int 5)), some (.d (.list [floorD f0, floorD f1])), s4, some (.own (.lss qs)), some (.d (.int (i : Nat))), some (.d (.str nm)), some (.d (.list [.int t0, .int t1])), some (.d (oS pl)), s10, s11, none] _
    refine wpSs_one (wpS_for (wpI_range m_range (wpA_cons (wpE_int (wpA_nil ⟨_, rfl, ⟨by decide, by decide⟩, ?_⟩)))) PassesOwn.never rfl)
    refine ⟨fun g δ' => ∃ (qs : Inners) (ll : List (List Line)) (s4 s10 s11 : Option Sl), LsI (fun j => if j < g then i + 1 else i) Any qs ll ∧ δ' = [some (.own .feed), some (.d (kindsD ks)), some (.d (.int 5)), some (.d (.list [floorD f0, floorD f1])), s4, some (.own (.lss qs)), some (.d (.int (i : Nat))), some (.d (.str nm)), some (.d (.list [.int t0, .int t1])), some (.d (oS pl)), s10, s11, none],
      ⟨qs, ll, s4, s10, s11, hI.mono fun j _ => by rw [if_neg (by omega)]; exact Nat.le_refl _, rfl⟩, ?_, ?_⟩
    · rintro g d δ' hd ⟨qs, ll, s4, s10, s11, hI, rfl⟩
      obtain ⟨hg, rfl⟩ := rng_get hd
      have hg2 : g < 2 := hg
      have hg01 : g = 0 ∨ g = 1 := by omega
      obtain ⟨tg, htg⟩ : ∃ tg : Int, atI [(PyData.int t0 : D), .int t1] (g : Nat) = some (.int tg) := by
        rcases hg01 with rfl | rfl
        · exact ⟨t0, rfl⟩
        · exact ⟨t1, rfl⟩
      obtain ⟨fg, hfg⟩ : ∃ fg : Option Int, atI [floorD f0, floorD f1] (g : Nat) = some (floorD fg) := by
        rcases hg01 with rfl | rfl
        · exact ⟨f0, rfl⟩
        · exact ⟨f1, rfl⟩
      obtain ⟨q, ls, hq, hls, hlb, hlp⟩ := hI.get hg2
      have hls20 : ls.length ≤ 20 := by
        have : ls.length ≤ i := by
          have := hlb
          rw [if_neg (Nat.lt_irrefl g)] at this
          exact this
        omega
      refine wpG_name 4 ?_ scLg.nd
      show wpSs _ _ _ [some (.own .feed), some (.d (kindsD ks)), some (.d (.int 5)), some (.d (.list [floorD f0, floorD f1])), some (.d (.int (g : Nat))), some (.own (.lss qs)), some (.d (.int (i : Nat))), some (.d (.str nm)), some (.d (.list [.int t0, .int t1])), some (.d (oS pl)), s10, s11, none] _
      have hmono : LsI (fun j => if j < g + 1 then i + 1 else i) Any qs ll := hI.mono fun j _ => (by split <;> split <;> omega)
      refine wpSs_cons (wpS_set 10 (wpE_mono (P := fun d => ∃ k, d = .bool k) ?_ fun d hd => ?_) scLg.nd)
      · refine wpE_and (wpE_cmp (op_neDD hr.units) ok_ne (nomark _) (wpE_ix (wpE_var 3 rfl (wpE_var 4 rfl ⟨_, hfg, wpE_str ?_⟩))))
        cases fg with
        | none => exact ⟨false, rfl, iteF ⟨_, rfl⟩⟩
        | some x =>
          refine ⟨true, rfl, iteT ?_⟩
          exact wpE_one (wpE_cmp op_ge ok_lt (nomark _) (wpE_ix (wpE_var 8 rfl (wpE_var 4 rfl ⟨_, htg, wpE_ix (wpE_var 3 rfl (wpE_var 4 rfl ⟨_, hfg, r_lt ⟨_, rfl⟩⟩))⟩))))
      obtain ⟨ml, rfl⟩ := hd
      show wpSs _ _ _ [some (.own .feed), some (.d (kindsD ks)), some (.d (.int 5)), some (.d (.list [floorD f0, floorD f1])), some (.d (.int (g : Nat))), some (.own (.lss qs)), some (.d (.int (i : Nat))), some (.d (.str nm)), some (.d (.list [.int t0, .int t1])), some (.d (oS pl)), some (.d (.bool ml)), s11, none] _
      refine wpSs_one (wpS_if (wpT_mono (P := fun _ => True) (wpT_W ?_) fun k _ => ?_))
      · refine wpW_or (wpT_not (wpT_val (wpE_var 10 rfl ⟨ml, rfl, ?_⟩)))
        cases ml with
        | false => exact iteT trivial
        | true => exact iteF (wpW_or1 (wpT_cmp op_gt ok_lt (nomark _) (wpE_take 0 GT hr1 gT kT bT rfl (wpE_int ⟨_, rfl, by decide, by decide, fun y y0 y1 => wpE_int (r_lt ⟨_, rfl, trivial⟩)⟩))))
      · cases k with
        | false => exact iteF (wpSs_nil ⟨qs, ll, _, _, _, hmono, rfl⟩)
        | true =>
          refine iteT (wpSs_cons (wpS_set 11 ?_ scLg.nd))
          refine wpE_take 0 GT hr1 gT kT bT rfl (wpE_bin op_addD ok_add (wpE_lendLs 5 rfl (wpE_callB call_lenX ok_len m_len boot_len' (wpA_cons (wpE_ix (wpE_var 5 rfl (wpE_var 4 rfl ⟨_, hI.at hq, wpA_nil ⟨(fun _ z => nomatch z), r_lenL ⟨rfl, ?_⟩⟩⟩)))))))
          rw [List.length_map]
          refine wpE_int (r_addI ⟨_, rfl, by omega, by omega, fun pz pz0 pz1 => ?_⟩)
          obtain ⟨pk, rfl⟩ := Int.eq_ofNat_of_zero_le pz0
          show wpSs _ _ _ [some (.own .feed), some (.d (kindsD ks)), some (.d (.int 5)), some (.d (.list [floorD f0, floorD f1])), some (.d (.int (g : Nat))), some (.own (.lss qs)), some (.d (.int (i : Nat))), some (.d (.str nm)), some (.d (.list [.int t0, .int t1])), some (.d (oS pl)), some (.d (.bool ml)), some (.d (.int (pk : Nat))), none] _
          refine wpSs_one (wpS_methLs effInsert 5 rfl eff_insert (wpE_var 4 rfl ⟨g, q, _, rfl, hq, ?_⟩) (hpe := fun a b => pe_bm PySem.F.plainAttrs_list PySem.F.slot_list_insert PySem.F.type_list_insert mt_insert a b))
          refine wpA_cons (wpE_var 11 rfl (wpA_cons (wpE_callF 0 GL hr gL kL bL rfl ?_)))
          refine wpA_cons (wpE_ix (wpE_var 8 rfl (wpE_var 4 rfl ⟨_, htg, ?_⟩)))
          repeat (first | ((with_reducible show wpA _ _ (_ :: _) _ _); refine wpA_cons ?_) | with_reducible refine wpA_nil ?_ | with_reducible refine wpE_int ?_ | with_reducible refine wpE_none ?_ | with_reducible refine wpE_bool ?_ | with_reducible refine wpE_str ?_ | with_reducible refine r_addI ?_ | with_reducible refine r_subI ?_ | with_reducible refine r_small (by with_unfolding_all rfl) ?_ | with_reducible refine r_addL (by with_unfolding_all rfl) ?_ | ((with_reducible show wpE _ _ (.Name _ _) _ _); first | refine wpE_var 0 rfl ?_ | refine wpE_var 1 rfl ?_ | refine wpE_var 2 rfl ?_ | refine wpE_var 3 rfl ?_ | refine wpE_var 4 rfl ?_ | refine wpE_var 5 rfl ?_ | refine wpE_var 6 rfl ?_ | refine wpE_var 7 rfl ?_ | refine wpE_var 8 rfl ?_ | refine wpE_var 9 rfl ?_ | refine wpE_var 10 rfl ?_ | refine wpE_var 11 rfl ?_ | refine wpE_var 12 rfl ?_ | refine wpE_var 13 rfl ?_) | ((with_reducible show wpE _ _ (.Tuple _ _ _) _ _); refine wpE_tup ?_) | ((with_reducible show wpE _ _ (.List _ _) _ _); refine wpE_lst ?_) | ((with_reducible show wpE _ _ (.BinOp _ .Add _ _) _ _); refine wpE_bin op_addD ok_add ?_) | ((with_reducible show wpE _ _ (.BinOp _ .Sub _ _) _ _); refine wpE_bin op_sub ok_sub ?_) | ((with_reducible show wpE _ _ (.Dict [_, _] _ _) _ _); refine wpE_disp2 ?_) | ((with_reducible show wpE _ _ (.Dict [_] _ _) _ _); refine wpE_disp1 ?_) | with_reducible refine r_d2 (by decide +kernel) ?_ | with_reducible refine r_d1 ?_)
          refine ⟨rfl, ⟨_, _, _, rfl⟩, fun d hd => ?_⟩
          obtain ⟨l, rfl⟩ := hd
          repeat (first | ((with_reducible show wpA _ _ (_ :: _) _ _); refine wpA_cons ?_) | with_reducible refine wpA_nil ?_ | with_reducible refine wpE_int ?_ | with_reducible refine wpE_none ?_ | with_reducible refine wpE_bool ?_ | with_reducible refine wpE_str ?_ | with_reducible refine r_addI ?_ | with_reducible refine r_subI ?_ | with_reducible refine r_small (by with_unfolding_all rfl) ?_ | with_reducible refine r_addL (by with_unfolding_all rfl) ?_ | ((with_reducible show wpE _ _ (.Name _ _) _ _); first | refine wpE_var 0 rfl ?_ | refine wpE_var 1 rfl ?_ | refine wpE_var 2 rfl ?_ | refine wpE_var 3 rfl ?_ | refine wpE_var 4 rfl ?_ | refine wpE_var 5 rfl ?_ | refine wpE_var 6 rfl ?_ | refine wpE_var 7 rfl ?_ | refine wpE_var 8 rfl ?_ | refine wpE_var 9 rfl ?_ | refine wpE_var 10 rfl ?_ | refine wpE_var 11 rfl ?_ | refine wpE_var 12 rfl ?_ | refine wpE_var 13 rfl ?_) | ((with_reducible show wpE _ _ (.Tuple _ _ _) _ _); refine wpE_tup ?_) | ((with_reducible show wpE _ _ (.List _ _) _ _); refine wpE_lst ?_) | ((with_reducible show wpE _ _ (.BinOp _ .Add _ _) _ _); refine wpE_bin op_addD ok_add ?_) | ((with_reducible show wpE _ _ (.BinOp _ .Sub _ _) _ _); refine wpE_bin op_sub ok_sub ?_) | ((with_reducible show wpE _ _ (.Dict [_, _] _ _) _ _); refine wpE_disp2 ?_) | ((with_reducible show wpE _ _ (.Dict [_] _ _) _ _); refine wpE_disp1 ?_) | with_reducible refine r_d2 (by decide +kernel) ?_ | with_reducible refine r_d1 ?_)
          refine ⟨_, ⟨pk, lineD l, rfl, ?_, by omega, (map_ins lineD ls pk l).symm⟩, ?_⟩
          · rw [List.length_map]
            exact Nat.lt_of_le_of_lt (Nat.le_trans hls20 (by decide : 20 ≤ 1000)) (by decide)
          · refine ⟨_, ll.set g (ls.take pk ++ [l] ++ ls.drop pk), _, _, _, hI.set rfl (fun j _ hj => ?_) ?_ fun l hl' => trivial, rfl⟩
            · split <;> split <;> omega
            · rw [len_ins, if_pos (Nat.lt_succ_self g)]
              rw [if_neg (Nat.lt_irrefl g)] at hlb
              omega
    · rintro δ' ⟨qs, ll, s4, s10, s11, hI, rfl⟩
      exact ⟨qs, ll, _, _, _, _, _, _, _, hI.mono fun j hj => (by split <;> omega), rfl⟩
  · rintro δ' ⟨qs, ll, s4, s6, s7, s8, s9, s10, s11, hI, rfl⟩
    rw [List.length_map, List.length_range] at hI
    replace hI := hI.mono (bd' := fun _ => 5) fun j _ => (by show n.toNat ≤ 5; omega)
    refine wpSs_cons (wpS_p2 (i := 12) (j := 4) scLg.nd ⟨rfl, .inl rfl, .inr rfl⟩ ⟨rfl, .inl rfl, .inr rfl⟩ (by decide) rfl (by kernel_rfl) (by kernel_rfl) ?_)
    refine wpA_cons (wpE_take 0 GT hr1 gT kT bT rfl (wpE_int ⟨_, rfl, by decide, by decide, fun ch ch0 ch1 => ?_⟩))
    refine wpA_cons (wpE_take 0 GT hr1 gT kT bT rfl (wpE_int ⟨_, rfl, by decide, by decide, fun gz gz0 gz1 => ?_⟩))
    obtain ⟨g, rfl⟩ := Int.eq_ofNat_of_zero_le gz0
    have hg2 : g < 2 := by omega
    refine wpA_nil ⟨_, _, rfl, ?_⟩
    show wpSs _ _ _ [some (.own .feed), some (.d (kindsD ks)), some (.d (.int 5)), some (.d (.list [floorD f0, floorD f1])), some (.d (.int (g : Nat))), some (.own (.lss qs)), s6, s7, s8, s9, s10, s11, some (.d (.int ch))] _
    obtain ⟨q, ls, hq, hls, hlb, hlp⟩ := hI.get hg2
    refine wpSs_cons (wpS_post (Q := fun δ' => ∃ (qs : Inners) (ll : List (List Line)), LsI (fun _ => 5) Any qs ll ∧ δ' = [some (.own .feed), some (.d (kindsD ks)), some (.d (.int 5)), some (.d (.list [floorD f0, floorD f1])), some (.d (.int (g : Nat))), some (.own (.lss qs)), s6, s7, s8, s9, s10, s11, some (.d (.int ch))]) ?_ ?_)
    · refine wpS_if (wpT_mono (P := fun k => k = true → ls ≠ []) (wpT_W ?_) fun k hk' => ?_)
      · refine wpW_and (wpT_cmp (op_eqDD hr.units) ok_eq (nomark _) (wpE_var 12 rfl (wpE_int (r_eqI ⟨_, rfl, ?_⟩))))
        cases decide (ch = 0) with
        | false => exact iteF (fun z => nomatch z)
        | true =>
          refine iteT (wpW_and1 (wpT_lendLs 5 rfl (wpT_cmp op_neP (ok_neNil hr.units) (nomark _) (wpE_ix (wpE_var 5 rfl (wpE_var 4 rfl ⟨_, hI.at hq, wpE_lst (wpA_nil ⟨Nat.zero_le _, ⟨nd_lines ls, pl_lines ls⟩, _, rfl, fun hne e => ?_⟩)⟩))))))
          rw [e] at hne
          cases hne
      · cases k with
        | false => exact iteF (wpSs_nil ⟨qs, ll, hI, rfl⟩)
        | true =>
          have hne := hk' rfl
          have hpos : 0 < ls.length := List.length_pos_iff.mpr hne
          change ls.length ≤ 5 at hlb
          refine iteT (wpSs_one (wpS_methLs effPop 5 rfl eff_pop (wpE_var 4 rfl ⟨g, q, _, rfl, hq, ?_⟩) (hpe := fun a b => pe_bm PySem.F.plainAttrs_list PySem.F.slot_list_pop PySem.F.type_list_pop mt_popAt a b)))
          refine wpA_cons (wpE_take 0 GT hr1 gT kT bT rfl (wpE_lendLs 5 rfl (wpE_callB call_lenX ok_len m_len boot_len' (wpA_cons (wpE_ix (wpE_var 5 rfl (wpE_var 4 rfl ⟨_, hI.at hq, wpA_nil ⟨(fun _ z => nomatch z), r_lenL ⟨rfl, ?_⟩⟩⟩)))))))
          rw [List.length_map]
          refine ⟨_, rfl, by omega, by omega, fun pz pz0 pz1 => ?_⟩
          obtain ⟨pk, rfl⟩ := Int.eq_ofNat_of_zero_le pz0
          refine wpA_nil ⟨_, ⟨pk, rfl, by rw [List.length_map]; omega, by omega, (map_erase lineD ls pk).symm⟩, ?_⟩
          refine ⟨_, ll.set g (ls.eraseIdx pk), hI.set rfl (fun j _ hj => Nat.le_refl _) ?_ fun l hl' => trivial, rfl⟩
          exact Nat.le_trans (List.length_eraseIdx_le _ _) hlb
    rintro δ' ⟨qs, ll, hI, rfl⟩
    obtain ⟨q, ls, hq, hls, hlb, hlp⟩ := hI.get hg2
    change ls.length ≤ 5 at hlb
    refine wpSs_cons (wpS_post (Q := fun δ' => ∃ (qs : Inners) (ll : List (List Line)), LsI (fun _ => 6) Any qs ll ∧ δ' = [some (.own .feed), some (.d (kindsD ks)), some (.d (.int 5)), some (.d (.list [floorD f0, floorD f1])), some (.d (.int (g : Nat))), some (.own (.lss qs)), s6, s7, s8, s9, s10, s11, some (.d (.int ch))]) ?_ ?_)
    · refine wpS_if (wpT_mono (P := fun _ => True) (wpT_W ?_) fun k hk' => ?_)
      · refine wpW_and (wpT_cmp (op_eqDD hr.units) ok_eq (nomark _) (wpE_var 12 rfl (wpE_int (r_eqI ⟨_, rfl, ?_⟩))))
        cases decide (ch = 1) with
        | false => exact iteF trivial
        | true =>
          exact iteT (wpW_and1 (wpT_cmp op_lt ok_lt (nomark _) (wpE_lendLs 5 rfl (wpE_callB call_lenX ok_len m_len boot_len' (wpA_cons (wpE_ix (wpE_var 5 rfl (wpE_var 4 rfl ⟨_, hI.at hq, wpA_nil ⟨(fun _ z => nomatch z), r_lenL ⟨rfl, wpE_var 2 rfl (r_lt ⟨_, rfl, trivial⟩)⟩⟩⟩))))))))
      · cases k with
        | false => exact iteF (wpSs_nil ⟨qs, ll, hI.mono fun _ _ => by decide, rfl⟩)
        | true =>
          refine iteT (wpSs_one (wpS_methLs effAppend 5 rfl eff_append (wpE_var 4 rfl ⟨g, q, _, rfl, hq, ?_⟩) (hpe := fun a b => pe_bm PySem.F.plainAttrs_list PySem.F.slot_list_append PySem.F.type_list_append mt_append a b)))
          refine wpA_cons (wpE_callF 0 GL hr gL kL bL rfl ?_)
          refine wpA_cons (wpE_take 0 GT hr1 gT kT bT rfl (wpE_int ⟨_, rfl, by decide, by decide, fun tt tt0 tt1 => ?_⟩))
          refine wpA_cons (wpE_pick 0 GP hr2 gP kP bP rfl (wpE_callB (call_sortedD rfl) ok_sortD m_sorted boot_sorted' (wpA_cons (wpE_var 1 rfl (wpA_nil (pick_name hk fun nm hnm => ?_))))))
          repeat (first | ((with_reducible show wpA _ _ (_ :: _) _ _); refine wpA_cons ?_) | with_reducible refine wpA_nil ?_ | with_reducible refine wpE_int ?_ | with_reducible refine wpE_none ?_ | with_reducible refine wpE_bool ?_ | with_reducible refine wpE_str ?_ | with_reducible refine r_addI ?_ | with_reducible refine r_subI ?_ | with_reducible refine r_small (by with_unfolding_all rfl) ?_ | with_reducible refine r_addL (by with_unfolding_all rfl) ?_ | ((with_reducible show wpE _ _ (.Name _ _) _ _); first | refine wpE_var 0 rfl ?_ | refine wpE_var 1 rfl ?_ | refine wpE_var 2 rfl ?_ | refine wpE_var 3 rfl ?_ | refine wpE_var 4 rfl ?_ | refine wpE_var 5 rfl ?_ | refine wpE_var 6 rfl ?_ | refine wpE_var 7 rfl ?_ | refine wpE_var 8 rfl ?_ | refine wpE_var 9 rfl ?_ | refine wpE_var 10 rfl ?_ | refine wpE_var 11 rfl ?_ | refine wpE_var 12 rfl ?_ | refine wpE_var 13 rfl ?_) | ((with_reducible show wpE _ _ (.Tuple _ _ _) _ _); refine wpE_tup ?_) | ((with_reducible show wpE _ _ (.List _ _) _ _); refine wpE_lst ?_) | ((with_reducible show wpE _ _ (.BinOp _ .Add _ _) _ _); refine wpE_bin op_addD ok_add ?_) | ((with_reducible show wpE _ _ (.BinOp _ .Sub _ _) _ _); refine wpE_bin op_sub ok_sub ?_) | ((with_reducible show wpE _ _ (.Dict [_, _] _ _) _ _); refine wpE_disp2 ?_) | ((with_reducible show wpE _ _ (.Dict [_] _ _) _ _); refine wpE_disp1 ?_) | with_reducible refine r_d2 (by decide +kernel) ?_ | with_reducible refine r_d1 ?_)
          refine ⟨rfl, ⟨_, _, some "C3", rfl⟩, fun d hd => ?_⟩
          obtain ⟨l, rfl⟩ := hd
          repeat (first | ((with_reducible show wpA _ _ (_ :: _) _ _); refine wpA_cons ?_) | with_reducible refine wpA_nil ?_ | with_reducible refine wpE_int ?_ | with_reducible refine wpE_none ?_ | with_reducible refine wpE_bool ?_ | with_reducible refine wpE_str ?_ | with_reducible refine r_addI ?_ | with_reducible refine r_subI ?_ | with_reducible refine r_small (by with_unfolding_all rfl) ?_ | with_reducible refine r_addL (by with_unfolding_all rfl) ?_ | ((with_reducible show wpE _ _ (.Name _ _) _ _); first | refine wpE_var 0 rfl ?_ | refine wpE_var 1 rfl ?_ | refine wpE_var 2 rfl ?_ | refine wpE_var 3 rfl ?_ | refine wpE_var 4 rfl ?_ | refine wpE_var 5 rfl ?_ | refine wpE_var 6 rfl ?_ | refine wpE_var 7 rfl ?_ | refine wpE_var 8 rfl ?_ | refine wpE_var 9 rfl ?_ | refine wpE_var 10 rfl ?_ | refine wpE_var 11 rfl ?_ | refine wpE_var 12 rfl ?_ | refine wpE_var 13 rfl ?_) | ((with_reducible show wpE _ _ (.Tuple _ _ _) _ _); refine wpE_tup ?_) | ((with_reducible show wpE _ _ (.List _ _) _ _); refine wpE_lst ?_) | ((with_reducible show wpE _ _ (.BinOp _ .Add _ _) _ _); refine wpE_bin op_addD ok_add ?_) | ((with_reducible show wpE _ _ (.BinOp _ .Sub _ _) _ _); refine wpE_bin op_sub ok_sub ?_) | ((with_reducible show wpE _ _ (.Dict [_, _] _ _) _ _); refine wpE_disp2 ?_) | ((with_reducible show wpE _ _ (.Dict [_] _ _) _ _); refine wpE_disp1 ?_) | with_reducible refine r_d2 (by decide +kernel) ?_ | with_reducible refine r_d1 ?_)
          refine ⟨_, ⟨lineD l, rfl, ?_, rfl⟩, ?_⟩
          · rw [List.length_map]
            exact Nat.lt_of_le_of_lt (Nat.le_trans hlb (by decide : 5 ≤ 1000)) (by decide)
          · refine ⟨_, ll.set g (ls ++ [l]), hI.set (by rw [List.map_append]; rfl) (fun j _ hj => by decide) ?_ fun l hl' => trivial, rfl⟩
            rw [List.length_append]
            show ls.length + 1 ≤ 6
            omega
    rintro δ' ⟨qs, ll, hI, rfl⟩
    obtain ⟨en, ex', eD, l1, l2, p1, p2⟩ := hI.two'
    refine wpSs_thawLs 5 rfl ?_
    rw [eD]
    show wpSs _ _ _ [some (.own .feed), some (.d (kindsD ks)), some (.d (.int 5)), some (.d (.list [floorD f0, floorD f1])), some (.d (.int (g : Nat))), some (.d (.list [.list (en.map lineD), .list (ex'.map lineD)])), s6, s7, s8, s9, s10, s11, some (.d (.int ch))] _
    refine wpSs_one (wpS_ret ?_)
    repeat (first | ((with_reducible show wpA _ _ (_ :: _) _ _); refine wpA_cons ?_) | with_reducible refine wpA_nil ?_ | with_reducible refine wpE_int ?_ | with_reducible refine wpE_none ?_ | with_reducible refine wpE_bool ?_ | with_reducible refine wpE_str ?_ | with_reducible refine r_addI ?_ | with_reducible refine r_subI ?_ | with_reducible refine r_small (by with_unfolding_all rfl) ?_ | with_reducible refine r_addL (by with_unfolding_all rfl) ?_ | ((with_reducible show wpE _ _ (.Name _ _) _ _); first | refine wpE_var 0 rfl ?_ | refine wpE_var 1 rfl ?_ | refine wpE_var 2 rfl ?_ | refine wpE_var 3 rfl ?_ | refine wpE_var 4 rfl ?_ | refine wpE_var 5 rfl ?_ | refine wpE_var 6 rfl ?_ | refine wpE_var 7 rfl ?_ | refine wpE_var 8 rfl ?_ | refine wpE_var 9 rfl ?_ | refine wpE_var 10 rfl ?_ | refine wpE_var 11 rfl ?_ | refine wpE_var 12 rfl ?_ | refine wpE_var 13 rfl ?_) | ((with_reducible show wpE _ _ (.Tuple _ _ _) _ _); refine wpE_tup ?_) | ((with_reducible show wpE _ _ (.List _ _) _ _); refine wpE_lst ?_) | ((with_reducible show wpE _ _ (.BinOp _ .Add _ _) _ _); refine wpE_bin op_addD ok_add ?_) | ((with_reducible show wpE _ _ (.BinOp _ .Sub _ _) _ _); refine wpE_bin op_sub ok_sub ?_) | ((with_reducible show wpE _ _ (.Dict [_, _] _ _) _ _); refine wpE_disp2 ?_) | ((with_reducible show wpE _ _ (.Dict [_] _ _) _ _); refine wpE_disp1 ?_) | with_reducible refine r_d2 (by decide +kernel) ?_ | with_reducible refine r_d1 ?_)
    refine wpE_ix (wpE_var 5 rfl (wpE_int ⟨_, rfl, ?_⟩))
    refine wpA_cons (wpE_ix (wpE_var 5 rfl (wpE_int ⟨_, rfl, ?_⟩)))
    refine wpA_cons (wpE_ix (wpE_var 3 rfl (wpE_int ⟨_, rfl, ?_⟩)))
    refine wpA_cons (wpE_ix (wpE_var 3 rfl (wpE_int ⟨_, rfl, ?_⟩)))
    repeat (first | ((with_reducible show wpA _ _ (_ :: _) _ _); refine wpA_cons ?_) | with_reducible refine wpA_nil ?_ | with_reducible refine wpE_int ?_ | with_reducible refine wpE_none ?_ | with_reducible refine wpE_bool ?_ | with_reducible refine wpE_str ?_ | with_reducible refine r_addI ?_ | with_reducible refine r_subI ?_ | with_reducible refine r_small (by with_unfolding_all rfl) ?_ | with_reducible refine r_addL (by with_unfolding_all rfl) ?_ | ((with_reducible show wpE _ _ (.Name _ _) _ _); first | refine wpE_var 0 rfl ?_ | refine wpE_var 1 rfl ?_ | refine wpE_var 2 rfl ?_ | refine wpE_var 3 rfl ?_ | refine wpE_var 4 rfl ?_ | refine wpE_var 5 rfl ?_ | refine wpE_var 6 rfl ?_ | refine wpE_var 7 rfl ?_ | refine wpE_var 8 rfl ?_ | refine wpE_var 9 rfl ?_ | refine wpE_var 10 rfl ?_ | refine wpE_var 11 rfl ?_ | refine wpE_var 12 rfl ?_ | refine wpE_var 13 rfl ?_) | ((with_reducible show wpE _ _ (.Tuple _ _ _) _ _); refine wpE_tup ?_) | ((with_reducible show wpE _ _ (.List _ _) _ _); refine wpE_lst ?_) | ((with_reducible show wpE _ _ (.BinOp _ .Add _ _) _ _); refine wpE_bin op_addD ok_add ?_) | ((with_reducible show wpE _ _ (.BinOp _ .Sub _ _) _ _); refine wpE_bin op_sub ok_sub ?_) | ((with_reducible show wpE _ _ (.Dict [_, _] _ _) _ _); refine wpE_disp2 ?_) | ((with_reducible show wpE _ _ (.Dict [_] _ _) _ _); refine wpE_disp1 ?_) | with_reducible refine r_d2 (by decide +kernel) ?_ | with_reducible refine r_d1 ?_)
    exact ⟨⟨en, ex', f0, f1⟩, rfl, l1, l2⟩
end
end K31

set_option Elab.async false
set_option linter.all false
set_option maxRecDepth 100000
set_option maxHeartbeats 1000000
namespace K31
open PySem PySem.Spec L2 DL
/-! ### the graph -/
def fitsIJ (ks : Kinds) (lg : Log) (i j : Nat) : Bool := match lg.entries[i]?, lg.exits[j]? with
  | some l, some x => fitsB ks l x
  | _, _ => false
def gRow (ks : Kinds) (lg : Log) (i m : Nat) : World' := ((List.range m).filter (fitsIJ ks lg i)).map fun j => (i, j)
def gPre (ks : Kinds) (lg : Log) (n : Nat) : World' := (List.range n).flatMap fun i => gRow ks lg i lg.exits.length
def gPairs (ks : Kinds) (lg : Log) : World' := gPre ks lg lg.entries.length
def gMus (ks : Kinds) (lg : Log) (g m : Nat) : List Nat := (List.range m).filter fun k => !mayB ks lg g k
def gMust (ks : Kinds) (lg : Log) (g : Nat) : List Nat := gMus ks lg g (gl lg g).length
def natsD (xs : List Nat) : D := .list (xs.map fun k => PyData.int (k : Nat))
def graphD (ks : Kinds) (lg : Log) : D := .dict [(.str "pairs", worldD (gPairs ks lg)), (.str "must", .list [natsD (gMust ks lg 0), natsD (gMust ks lg 1)])]
theorem gRow_succ (ks : Kinds) (lg : Log) (i m : Nat) : gRow ks lg i (m + 1) = gRow ks lg i m ++ if fitsIJ ks lg i m = true then [(i, m)] else [] := by
  unfold gRow
  rw [List.range_succ, List.filter_append, List.map_append]
  congr 1
  rw [List.filter_cons, List.filter_nil]
  split <;> rfl
theorem gMus_succ (ks : Kinds) (lg : Log) (g m : Nat) : gMus ks lg g (m + 1) = gMus ks lg g m ++ if mayB ks lg g m = true then [] else [m] := by
  unfold gMus
  rw [List.range_succ, List.filter_append]
  congr 1
  rw [List.filter_cons, List.filter_nil]
  cases mayB ks lg g m <;> rfl
theorem gPre_succ (ks : Kinds) (lg : Log) (n : Nat) : gPre ks lg (n + 1) = gPre ks lg n ++ gRow ks lg n lg.exits.length := by
  unfold gPre
  rw [List.range_succ, List.flatMap_append, List.flatMap_cons, List.flatMap_nil, List.append_nil]
theorem gRow_len (ks : Kinds) (lg : Log) (i m : Nat) : (gRow ks lg i m).length ≤ m := by
  unfold gRow
  rw [List.length_map]
  exact Nat.le_trans (List.length_filter_le _ _) (by rw [List.length_range]; exact Nat.le_refl _)
theorem gMus_len (ks : Kinds) (lg : Log) (i m : Nat) : (gMus ks lg i m).length ≤ m := by
  unfold gMus
  exact Nat.le_trans (List.length_filter_le _ _) (by rw [List.length_range]; exact Nat.le_refl _)
theorem gPre_len (ks : Kinds) (lg : Log) (n : Nat) : (gPre ks lg n).length ≤ n * lg.exits.length := by
  induction n with
  | zero => exact Nat.zero_le _
  | succ n ih =>
    rw [gPre_succ, List.length_append]
    have := gRow_len ks lg n lg.exits.length
    have e : (n + 1) * lg.exits.length = n * lg.exits.length + lg.exits.length := Nat.succ_mul _ _
    omega
theorem gPairs_mem {ks : Kinds} {lg : Log} {p : Nat × Nat} : p ∈ gPairs ks lg ↔ fitsIJ ks lg p.1 p.2 = true := by
  unfold gPairs gPre gRow
  rw [List.mem_flatMap]
  constructor
  · rintro ⟨i, _, hp⟩
    obtain ⟨j, hj, rfl⟩ := List.mem_map.mp hp
    exact (List.mem_filter.mp hj).2
  · intro h
    have h0 := h
    unfold fitsIJ at h
    cases e1 : lg.entries[p.1]? with
    | none => rw [e1] at h; cases h
    | some l =>
      cases e2 : lg.exits[p.2]? with
      | none => rw [e1, e2] at h; cases h
      | some x =>
        exact ⟨p.1, List.mem_range.mpr (List.getElem?_eq_some_iff.mp e1).1, List.mem_map.mpr ⟨p.2, List.mem_filter.mpr ⟨List.mem_range.mpr (List.getElem?_eq_some_iff.mp e2).1, h0⟩, rfl⟩⟩
theorem fitsIJ_in {ks : Kinds} {lg : Log} {i j : Nat} (h : fitsIJ ks lg i j = true) : i < lg.entries.length ∧ j < lg.exits.length := by
  unfold fitsIJ at h
  cases e1 : lg.entries[i]? with
  | none => rw [e1] at h; cases h
  | some l =>
    cases e2 : lg.exits[j]? with
    | none => rw [e1, e2] at h; cases h
    | some x => exact ⟨(List.getElem?_eq_some_iff.mp e1).1, (List.getElem?_eq_some_iff.mp e2).1⟩
theorem enum_get {ls : List Line} {i : Nat} {d : D} (h : (enumD (ls.map lineD))[i]? = some d) : ∃ l, ls[i]? = some l ∧ d = .tuple [.int (i : Nat), lineD l] := by
  unfold enumD at h
  rw [List.getElem?_map, List.getElem?_zipIdx, List.getElem?_map] at h
  cases e : ls[i]? with
  | none => rw [e] at h; cases h
  | some l =>
    rw [e] at h
    cases h
    refine ⟨l, rfl, ?_⟩
    show PyData.tuple [.int ((0 + i : Nat)), lineD l] = _
    rw [Nat.zero_add]
section
variable {P : Program} {w : World} {K : PySem.W.Frag} {mg : Str → Option Value} {base : Heap} {Tb : List Addr}
abbrev nGr : List Str := ["kinds", "log", "found", "entry_number", "line", "exit_number", "other", "must", "gate", "k"]
theorem scGr : FnScope nGr ["kinds", "log"] (defScope sGraph) := ⟨rfl, rfl, rfl, by decide +kernel, rfl, by decide +kernel, by decide +kernel⟩
abbrev GGraph (P : Program) (w : World) (K : PySem.W.Frag) (mg : Str → Option Value) (base : Heap) (Tb : List Addr) (f : Addr) (fd : FuncData) : Prop := ∀ (ks : Kinds) (lg : Log), (ks.map (·.1)).Nodup → lg.entries.length ≤ 6 → lg.exits.length ≤ 6 → FnOk P w K mg base CX0 2 f fd ["kinds", "log"] (FnV Tb [kindsD ks, logD lg] (graphD ks lg))
theorem small36 {n : Nat} (h : n ≤ 100) : n < sizeLine := Nat.lt_of_le_of_lt h (by decide)
theorem ok_graph {f c : Addr} {fd : FuncData} (F : FunC K "_law_graph" "_law_graph" sGraph f c fd) (m_range : mg "range" = none) (m_len : mg "len" = none) (m_enumerate : mg "enumerate" = none)
    {fF : Addr} {fdF : FuncData} (GF : GFits P w K mg base Tb fF fdF) (gF : mg "_law_fits" = some (.ref fF)) (kF : PySem.W.keepIn K (.ref fF) = true) (bF : Binds K fdF ["kinds", "one", "other"] [])
    {fM : Addr} {fdM : FuncData} (GM : GMay P w K mg base Tb fM fdM) (gM : mg "_law_may_be_open" = some (.ref fM)) (kM : PySem.W.keepIn K (.ref fM) = true) (bM : Binds K fdM ["kinds", "log", "gate", "number"] []) :
    GGraph P w K mg base Tb f fd := by
  intro ks lg hnd hle hlx
  refine fn_ok F scGr (by decide) rfl fun A outer s H E ds hr hl hp => ?_
  subst hp
  have hbig : ∀ n, n < lg.entries.length → (gPre ks lg n).length ≤ 36 := fun n hn => Nat.le_trans (gPre_len ks lg n) (by
    have := Nat.mul_le_mul (show n ≤ 6 by omega) hlx
    omega)
  show wpSs _ _ _ [some (.d (kindsD ks)), some (.d (logD lg)), none, none, none, none, none, none, none, none] _
  refine wpSs_cons (wpS_own 2 (wpF_lst (wpA_nil ⟨Nat.zero_le _, ?_⟩)) scGr.nd)
  show wpSs _ _ _ [some (.d (kindsD ks)), some (.d (logD lg)), some (.own (.lst [])), none, none, none, none, none, none, none] _
  refine wpSs_cons (wpS_for (wpI_enum m_enumerate (wpE_ix (wpE_var 1 rfl (wpE_int ⟨_, rfl, _, rfl, ?_⟩)))) PassesOwn.never rfl)
  refine ⟨fun i δ' => ∃ s3 s4 s5 s6, δ' = [some (.d (kindsD ks)), some (.d (logD lg)), some (.own (.lst ((gPre ks lg i).map fun p => pairD (pr p)))), s3, s4, s5, s6, none, none, none], ⟨_, _, _, _, rfl⟩, ?_, ?_⟩
  · rintro i d δ' hd ⟨s3, s4, s5, s6, rfl⟩
    obtain ⟨l, hl, rfl⟩ := enum_get hd
    have hi : i < lg.entries.length := (List.getElem?_eq_some_iff.mp hl).1
    refine wpG_tup (js := [3, 4]) (pgs_cons (pg_name (i := 3) scGr.nd rfl (.inl rfl)) (pgs_cons (pg_name (i := 4) scGr.nd rfl (.inl rfl)) pgs_nil)) ⟨_, rfl, rfl, ?_⟩ rfl
    show wpSs _ _ _ [some (.d (kindsD ks)), some (.d (logD lg)), some (.own (.lst ((gPre ks lg i).map fun p => pairD (pr p)))), some (.d (.int (i : Nat))), some (.d (lineD l)), s5, s6, none, none, none] _
    refine wpSs_one (wpS_for (wpI_enum m_enumerate (wpE_ix (wpE_var 1 rfl (wpE_int ⟨_, rfl, _, rfl, ?_⟩)))) PassesOwn.never rfl)
    refine ⟨fun j δ' => ∃ s5 s6, δ' = [some (.d (kindsD ks)), some (.d (logD lg)), some (.own (.lst ((gPre ks lg i ++ gRow ks lg i j).map fun p => pairD (pr p)))), some (.d (.int (i : Nat))), some (.d (lineD l)), s5, s6, none, none, none], ⟨s5, s6, ?_⟩, ?_, ?_⟩
    · show _ = [_, _, some (Sl.own (.lst ((gPre ks lg i ++ []).map _))), _, _, _, _, _, _, _]
      rw [List.append_nil]
    · rintro j d δ' hd ⟨s5, s6, rfl⟩
      obtain ⟨x, hx, rfl⟩ := enum_get hd
      have hj : j < lg.exits.length := (List.getElem?_eq_some_iff.mp hx).1
      refine wpG_tup (js := [5, 6]) (pgs_cons (pg_name (i := 5) scGr.nd rfl (.inl rfl)) (pgs_cons (pg_name (i := 6) scGr.nd rfl (.inl rfl)) pgs_nil)) ⟨_, rfl, rfl, ?_⟩ rfl
      show wpSs _ _ _ [some (.d (kindsD ks)), some (.d (logD lg)), some (.own (.lst ((gPre ks lg i ++ gRow ks lg i j).map fun p => pairD (pr p)))), some (.d (.int (i : Nat))), some (.d (lineD l)), some (.d (.int (j : Nat))), some (.d (lineD x)), none, none, none] _
      have hf : fitsB ks l x = fitsIJ ks lg i j := by
        unfold fitsIJ
        rw [hl, hx]
      refine wpSs_one (wpS_if (wpT_val (wpE_call (GF ks l x hnd) hr gF kF bF (wpA_cons (wpE_var 0 rfl (wpA_cons (wpE_var 4 rfl (wpA_cons (wpE_var 6 rfl (wpA_nil ⟨rfl, rfl, fun d hd => ⟨_, hd, ?_⟩⟩))))))))))
      rw [hf]
      have hs := gRow_succ ks lg i j
      cases e : fitsIJ ks lg i j with
      | false =>
        rw [e] at hs
        refine iteF (wpSs_nil ⟨some (.d (.int (j : Nat))), some (.d (lineD x)), ?_⟩)
        rw [hs]
        show _ = [_, _, some (Sl.own (.lst ((gPre ks lg i ++ (gRow ks lg i j ++ [])).map _))), _, _, _, _, _, _, _]
        rw [List.append_nil]
      | true =>
        rw [e] at hs
        refine iteT (wpSs_one (wpS_append 2 rfl ?_ (hpe := fun a b => pe_bm PySem.F.plainAttrs_list PySem.F.slot_list_append PySem.F.type_list_append mt_append a b)))
        repeat (first | ((with_reducible show wpA _ _ (_ :: _) _ _); refine wpA_cons ?_) | with_reducible refine wpA_nil ?_ | with_reducible refine wpE_int ?_ | with_reducible refine wpE_none ?_ | with_reducible refine wpE_bool ?_ | with_reducible refine wpE_str ?_ | with_reducible refine r_addI ?_ | with_reducible refine r_subI ?_ | with_reducible refine r_small (by with_unfolding_all rfl) ?_ | with_reducible refine r_addL (by with_unfolding_all rfl) ?_ | ((with_reducible show wpE _ _ (.Name _ _) _ _); first | refine wpE_var 0 rfl ?_ | refine wpE_var 1 rfl ?_ | refine wpE_var 2 rfl ?_ | refine wpE_var 3 rfl ?_ | refine wpE_var 4 rfl ?_ | refine wpE_var 5 rfl ?_ | refine wpE_var 6 rfl ?_ | refine wpE_var 7 rfl ?_ | refine wpE_var 8 rfl ?_ | refine wpE_var 9 rfl ?_ | refine wpE_var 10 rfl ?_ | refine wpE_var 11 rfl ?_ | refine wpE_var 12 rfl ?_ | refine wpE_var 13 rfl ?_) | ((with_reducible show wpE _ _ (.Tuple _ _ _) _ _); refine wpE_tup ?_) | ((with_reducible show wpE _ _ (.List _ _) _ _); refine wpE_lst ?_) | ((with_reducible show wpE _ _ (.BinOp _ .Add _ _) _ _); refine wpE_bin op_addD ok_add ?_) | ((with_reducible show wpE _ _ (.BinOp _ .Sub _ _) _ _); refine wpE_bin op_sub ok_sub ?_) | ((with_reducible show wpE _ _ (.Dict [_, _] _ _) _ _); refine wpE_disp2 ?_) | ((with_reducible show wpE _ _ (.Dict [_] _ _) _ _); refine wpE_disp1 ?_) | with_reducible refine r_d2 (by decide +kernel) ?_ | with_reducible refine r_d1 ?_)
        refine ⟨?_, some (.d (.int (j : Nat))), some (.d (lineD x)), ?_⟩
        · rw [List.length_map, List.length_append]
          have h1 := hbig i hi
          have h2 := gRow_len ks lg i j
          exact small36 (by omega)
        · rw [hs]
          show _ = [_, _, some (Sl.own (.lst ((gPre ks lg i ++ (gRow ks lg i j ++ [(i, j)])).map _))), _, _, _, _, _, _, _]
          rw [← List.append_assoc, List.map_append (l₁ := gPre ks lg i ++ gRow ks lg i j)]
          rfl
    · rintro δ' ⟨s5, s6, rfl⟩
      refine ⟨some (.d (.int (i : Nat))), some (.d (lineD l)), s5, s6, ?_⟩
      rw [gPre_succ]
      have : (enumD (lg.exits.map lineD)).length = lg.exits.length := by
        unfold enumD
        rw [List.length_map, List.length_zipIdx, List.length_map]
      rw [this]
  · rintro δ' ⟨s3, s4, s5, s6, rfl⟩
    have : (enumD (lg.entries.map lineD)).length = lg.entries.length := by
      unfold enumD
      rw [List.length_map, List.length_zipIdx, List.length_map]
    rw [this]
    refine wpSs_thaw 2 rfl ?_
    show wpSs _ _ _ [some (.d (kindsD ks)), some (.d (logD lg)), some (.d (worldD (gPairs ks lg))), s3, s4, s5, s6, none, none, none] _
    refine wpSs_cons (wpS_newLs0 7 ?_ scGr.nd)
    show wpSs _ _ _ [some (.d (kindsD ks)), some (.d (logD lg)), some (.d (worldD (gPairs ks lg))), s3, s4, s5, s6, some (.own (.lss [])), none, none] _
    refine wpSs_cons (wpS_for (wpI_range m_range (wpA_cons (wpE_int (wpA_nil ⟨_, rfl, ⟨by decide, by decide⟩, ?_⟩)))) PassesOwn.never rfl)
    refine ⟨fun g δ' => ∃ (qs : Inners) (s8 s9 : Option Sl), qs.map (·.2) = (List.range g).map (fun g => (gMust ks lg g).map fun k => PyData.int (k : Nat)) ∧ δ' = [some (.d (kindsD ks)), some (.d (logD lg)), some (.d (worldD (gPairs ks lg))), s3, s4, s5, s6, some (.own (.lss qs)), s8, s9], ⟨[], _, _, rfl, rfl⟩, ?_, ?_⟩
    · rintro g d δ' hd ⟨qs, s8, s9, hq, rfl⟩
      obtain ⟨hg, rfl⟩ := rng_get hd
      have hg2 : g < 2 := hg
      have hql : qs.length = g := by
        have := congrArg List.length hq
        rw [List.length_map, List.length_map, List.length_range] at this
        exact this
      have hgl : (gl lg g).length ≤ 6 := by
        unfold gl
        split
        · exact hle
        · exact hlx
      have hgx : ∃ es, atI [(PyData.list (lg.entries.map lineD) : D), .list (lg.exits.map lineD), floorD lg.ef, floorD lg.xf] (g : Nat) = some (.list es) ∧ es.length = (gl lg g).length := by
        have : g = 0 ∨ g = 1 := by omega
        rcases this with rfl | rfl
        · exact ⟨_, rfl, List.length_map _⟩
        · exact ⟨_, rfl, List.length_map _⟩
      obtain ⟨es, he, hel⟩ := hgx
      refine wpG_name 8 ?_ scGr.nd
      show wpSs _ _ _ [some (.d (kindsD ks)), some (.d (logD lg)), some (.d (worldD (gPairs ks lg))), s3, s4, s5, s6, some (.own (.lss qs)), some (.d (.int (g : Nat))), s9] _
      refine wpSs_cons (wpS_growLs 7 rfl (by rw [hql]; exact small36 (by omega)) (fun q => ?_) (hpe := fun a b => pe_bm PySem.F.plainAttrs_list PySem.F.slot_list_append PySem.F.type_list_append mt_append a b))
      show wpSs _ _ _ [some (.d (kindsD ks)), some (.d (logD lg)), some (.d (worldD (gPairs ks lg))), s3, s4, s5, s6, some (.own (.lss (qs ++ [(q, [])]))), some (.d (.int (g : Nat))), s9] _
      refine wpSs_one (wpS_for (wpI_range m_range (wpA_cons (wpE_callB call_lenX ok_len m_len boot_len' (wpA_cons (wpE_ix (wpE_var 1 rfl (wpE_var 8 rfl ⟨_, he, wpA_nil ⟨(fun _ z => nomatch z), r_lenL (wpA_nil ⟨_, rfl, ⟨by omega, by omega⟩, ?_⟩)⟩⟩))))))) PassesOwn.never rfl)
      refine ⟨fun k δ' => ∃ s9, δ' = [some (.d (kindsD ks)), some (.d (logD lg)), some (.d (worldD (gPairs ks lg))), s3, s4, s5, s6, some (.own (.lss (qs ++ [(q, (gMus ks lg g k).map fun k => PyData.int (k : Nat))]))), some (.d (.int (g : Nat))), s9], ⟨_, rfl⟩, ?_, ?_⟩
      · rintro k d δ' hd ⟨s9, rfl⟩
        obtain ⟨hk, rfl⟩ := rng_get hd
        have hk' : k < (gl lg g).length := by rw [← hel]; exact hk
        refine wpG_name 9 ?_ scGr.nd
        show wpSs _ _ _ [some (.d (kindsD ks)), some (.d (logD lg)), some (.d (worldD (gPairs ks lg))), s3, s4, s5, s6, some (.own (.lss (qs ++ [(q, (gMus ks lg g k).map fun k => PyData.int (k : Nat))]))), some (.d (.int (g : Nat))), some (.d (.int (k : Nat)))] _
        refine wpSs_one (wpS_if (wpT_not (wpT_val (wpE_call (GM ks lg g k hnd hg2 hk') hr gM kM bM ?_))))
        refine wpA_cons (wpE_var 0 rfl (wpA_cons (wpE_var 1 rfl (wpA_cons (wpE_var 8 rfl (wpA_cons (wpE_var 9 rfl (wpA_nil ⟨rfl, rfl, fun d hd => ⟨_, hd, ?_⟩⟩))))))))
        have hs := gMus_succ ks lg g k
        cases e : mayB ks lg g k with
        | true =>
          rw [e] at hs
          refine iteF (wpSs_nil ⟨some (.d (.int (k : Nat))), ?_⟩)
          rw [hs]
          show _ = [_, _, _, _, _, _, _, some (Sl.own (.lss (qs ++ [(q, (gMus ks lg g k ++ []).map _)]))), _, _]
          rw [List.append_nil]
        | false =>
          rw [e] at hs
          have hget : (qs ++ [(q, (gMus ks lg g k).map fun k => PyData.int (k : Nat))])[g]? = some (q, (gMus ks lg g k).map fun k => PyData.int (k : Nat)) := by
            rw [List.getElem?_append_right (by omega), hql, Nat.sub_self]
            rfl
          refine iteT (wpSs_one (wpS_methLs effAppend 7 rfl eff_append (wpE_var 8 rfl ⟨g, q, _, rfl, hget, wpA_cons (wpE_var 9 rfl (wpA_nil ⟨_, ⟨.int (k : Nat), rfl, ?_, rfl⟩, some (.d (.int (k : Nat))), ?_⟩))⟩) (hpe := fun a b => pe_bm PySem.F.plainAttrs_list PySem.F.slot_list_append PySem.F.type_list_append mt_append a b)))
          · rw [List.length_map]
            have := gMus_len ks lg g k
            exact small36 (by omega)
          · rw [hs]
            have hset : ∀ y : Addr × List D, (qs ++ [(q, (gMus ks lg g k).map fun k => PyData.int (k : Nat))]).set g y = qs ++ [y] := fun y => by
              rw [List.set_append_right _ _ (by omega), hql, Nat.sub_self]
              rfl
            rw [hset]
            show _ = [_, _, _, _, _, _, _, some (Sl.own (.lss (qs ++ [(q, (gMus ks lg g k ++ [k]).map _)]))), _, _]
            rw [List.map_append]
            rfl
      · rintro δ' ⟨s9, rfl⟩
        refine ⟨_, some (.d (.int (g : Nat))), s9, ?_, rfl⟩
        rw [List.range_succ, List.map_append, List.map_append, hq]
        congr 1
        rw [List.length_map, List.length_range]
        have : (↑es.length : Int).toNat = (gl lg g).length := by omega
        rw [this]
        rfl
    · rintro δ' ⟨qs, s8, s9, hq, rfl⟩
      refine wpSs_thawLs 7 rfl ?_
      have : lssD qs = .list [natsD (gMust ks lg 0), natsD (gMust ks lg 1)] := by
        show PyData.list (qs.map fun x => .list x.2) = _
        have e : (qs.map fun x => PyData.list x.2) = (qs.map (·.2)).map PyData.list := by rw [List.map_map]; rfl
        rw [e, hq]
        rfl
      rw [this]
      show wpSs _ _ _ [some (.d (kindsD ks)), some (.d (logD lg)), some (.d (worldD (gPairs ks lg))), s3, s4, s5, s6, some (.d (.list [natsD (gMust ks lg 0), natsD (gMust ks lg 1)])), s8, s9] _
      refine wpSs_one (wpS_ret ?_)
      repeat (first | ((with_reducible show wpA _ _ (_ :: _) _ _); refine wpA_cons ?_) | with_reducible refine wpA_nil ?_ | with_reducible refine wpE_int ?_ | with_reducible refine wpE_none ?_ | with_reducible refine wpE_bool ?_ | with_reducible refine wpE_str ?_ | with_reducible refine r_addI ?_ | with_reducible refine r_subI ?_ | with_reducible refine r_small (by with_unfolding_all rfl) ?_ | with_reducible refine r_addL (by with_unfolding_all rfl) ?_ | ((with_reducible show wpE _ _ (.Name _ _) _ _); first | refine wpE_var 0 rfl ?_ | refine wpE_var 1 rfl ?_ | refine wpE_var 2 rfl ?_ | refine wpE_var 3 rfl ?_ | refine wpE_var 4 rfl ?_ | refine wpE_var 5 rfl ?_ | refine wpE_var 6 rfl ?_ | refine wpE_var 7 rfl ?_ | refine wpE_var 8 rfl ?_ | refine wpE_var 9 rfl ?_ | refine wpE_var 10 rfl ?_ | refine wpE_var 11 rfl ?_ | refine wpE_var 12 rfl ?_ | refine wpE_var 13 rfl ?_) | ((with_reducible show wpE _ _ (.Tuple _ _ _) _ _); refine wpE_tup ?_) | ((with_reducible show wpE _ _ (.List _ _) _ _); refine wpE_lst ?_) | ((with_reducible show wpE _ _ (.BinOp _ .Add _ _) _ _); refine wpE_bin op_addD ok_add ?_) | ((with_reducible show wpE _ _ (.BinOp _ .Sub _ _) _ _); refine wpE_bin op_sub ok_sub ?_) | ((with_reducible show wpE _ _ (.Dict [_, _] _ _) _ _); refine wpE_disp2 ?_) | ((with_reducible show wpE _ _ (.Dict [_] _ _) _ _); refine wpE_disp1 ?_) | with_reducible refine r_d2 (by decide +kernel) ?_ | with_reducible refine r_d1 ?_)
      rfl
end
end K31

set_option Elab.async false
set_option linter.all false
set_option maxRecDepth 100000
set_option maxHeartbeats 2000000
/-! DL38: comprehensions whose own name is a cell, slots forgotten, x in a list of pairs, lists unpacked. -/
namespace DL
open PySem PySem.Spec L2
theorem AtO.forget {G : Glo} {B : Hp} {O0 M O : List Addr} {Lk : Lks} {δ : Dl} {σ : L2.St} {τ : List (V × D)} {H : Hp} (j : Nat) (I : AtO G B O0 M Lk O δ σ τ H) : AtO G B O0 M Lk O (δ.set j none) σ τ H := by
  have dl : ∀ {i : Nat} {sl : Sl}, (δ.set j none)[i]? = some (some sl) → δ[i]? = some (some sl) := fun {i sl} e => by
    rw [List.getElem?_set] at e
    split at e
    · split at e <;> cases e
    · exact e
  exact ⟨I.sub0, I.subM, I.o0, I.new, I.live, I.gr, fun p hp => ⟨(I.hid p hp).1, (I.hid p hp).2.1, (I.hid p hp).2.2.1, fun i o e => (I.hid p hp).2.2.2 i o (dl e)⟩, I.hidT, I.feeds, I.tabs, I.tmp, by rw [List.length_set]; exact I.len, fun i sl e => I.slots i sl (dl e), fun i j o o' p e1 e2 => I.sep i j o o' p (dl e1) (dl e2), I.lck, I.nof, I.inn.tellD (fun _ z => by cases z)⟩
/-- a slot of which nothing is told any more -/
theorem wpSs_forget {X : Cx} {Tb : List Addr} {δ : Dl} {R : Rs} {sts : List Stmt} (j : Nat) (h : wpSs X Tb sts (δ.set j none) R) : wpSs X Tb sts δ R := fun B O0 M Lk σ τ H I => by
  obtain ⟨O, I⟩ := I
  exact h B O0 M Lk σ τ H ⟨O, I.forget j⟩
theorem cl_pairD (p : Int × Int) : Cl 30 (pairD p) := cl_tuple (p := 29) (clA_cons (cl_int _ _) (clA_cons (cl_int _ _) (clA_nil _)))
theorem eqv_pairD (a b : Int × Int) : PyData.eqv (pairD a) (pairD b) = decide (a = b) := by
  obtain ⟨a1, a2⟩ := a
  obtain ⟨b1, b2⟩ := b
  simp only [pairD, PyData.eqv, PyData.eqvAll, Bool.and_true, Prod.mk.injEq, Bool.decide_and]
  congr 1
theorem clA_pairs (ps : List (Int × Int)) : ClA 30 (ps.map pairD) := clA_map fun p _ => cl_pairD p
section
variable {X : Cx} {Tb : List Addr} {δ : Dl} {elt iter : Expr} {es : List Expr} {pos p : Pos}
/-- [elt for x in iter if c ..], x a cell of the comprehension -/
theorem wpE_lcK {x : Str} {px : Pos} {ifs : List Expr} {scope : Scope} {P : D → Prop} {c : Option Expr} (j : Nat) (hj : δ[j]? = some none) (h : wpI X Tb (.Name x px) iter δ (LcG X Tb scope elt δ j c P))
    (hc : X.calm = true) (hN : X.N.Nodup) (ok : BlkOk X.N X.env.scope scope [(x, j)]) (hifs : ifs = c.toList) (hi : X.N[j]? = some x := by rfl) (hloc : ∀ C cl, Loc (compEnvC scope cl C X.env).scope x := by intro _ _; first | exact Or.inl rfl | exact Or.inr rfl)
    (hlo : (scope.names.lookup x == some .cell) = true := by rfl)
    (hs : ∀ x, foldedSetIterable iter X.env x = pure x := by intro _; rfl) : wpE X Tb (.ListComp elt [⟨.Name x px, iter, ifs, 0⟩] scope pos) δ P := fun B O0 M Lk σ τ H I Q q => by
  obtain ⟨wi, hwi, hw⟩ := h
  have gtr : ∀ (z : Shared) (H : Hp) (C : Addr) (cl : List (Str × Addr)) (fp : List Addr), PG (X.blk z H scope (compEnvC scope cl C X.env) fp) (.Name x px) (gName j) := fun z H C cl fp => pg_name hN hi (hloc C cl) (.inl hlo)
  have etr : ∀ (z : Shared) (H : Hp) (C : Addr) (cl : List (Str × Addr)) (fp : List Addr), PE (X.blk z H scope (compEnvC scope cl C X.env) fp) elt (fun σ H' Q => ∀ z H C cl fp, semE (blkX X z H scope C cl fp) elt σ H' Q) := fun z H C cl fp => ⟨fun pins s σ H' Q I h => (h z H C cl fp).run pins s I⟩
  have ttr : ∀ (z : Shared) (H : Hp) (C : Addr) (cl : List (Str × Addr)) (fp : List Addr), PTs (X.blk z H scope (compEnvC scope cl C X.env) fp) ifs (lcT X scope c) := fun z H C cl fp => by
    subst hifs
    cases c with
    | none => exact pts_nil
    | some t => exact pts_one ⟨fun pins s σ H' Q I h => (h z H C cl fp).run pins s I⟩
  exact sem_e (pe_lc hc hN hwi ok gtr ttr etr hs) (lc_q j hj hw I q)
/-! ### x in a list of pairs -/
theorem rp_pairsDp {K : PySem.W.Frag} {O : List Addr} {H : Hp} {y : V} {ps : List (Int × Int)} (r : Rp (vis O H) y (.list (ps.map pairD))) : Dp K H y (.list (ps.map pairD)) := r.dp (clA_pairs ps).nd
theorem any_pair (ps : List (Int × Int)) (p : Int × Int) : ((ps.map pairD).any fun z => PyData.eqv z (pairD p)) = decide (p ∈ ps) := by
  induction ps with
  | nil => rfl
  | cons q r ih =>
    rw [List.map_cons, List.any_cons, ih, eqv_pairD]
    by_cases e : q = p
    · rw [decide_eq_true e, e]
      simp
    · rw [decide_eq_false e, Bool.false_or]
      exact decide_eq_decide.mpr ⟨fun h => List.mem_cons_of_mem _ h, fun h => (List.mem_cons.mp h).resolve_left fun z => e z.symm⟩
theorem any_pairN : ∀ ps : List (Int × Int), ((ps.map pairD).any fun z => PyData.eqv z .none) = false
  | [] => rfl
  | q :: r => by
    rw [List.map_cons, List.any_cons, any_pairN r]
    simp only [pairD, PyData.eqv, Bool.or_false]
def inPR (f : Bool → Bool) : D → D → (D → Prop) → Prop := fun d1 d2 P => ∃ (p : Int × Int) (ps : List (Int × Int)), d1 = pairD p ∧ d2 = .list (ps.map pairD) ∧ P (.bool (f (decide (p ∈ ps))))
theorem shaped_pairs (ps : List (Int × Int)) : SeqAt.shaped (.list (ps.map pairD)) = true := (cl_list (clA_pairs ps)).shaped (by decide)
theorem ok_inP : Ok2 X Tb (rInD X.K) (inPR fun k => k) := by
  intro B O0 M Lk O δ σ τ H x y d1 d2 P I rx ry h Q q
  obtain ⟨p, ps, rfl, rfl, hP⟩ := h
  refine ⟨pairD p, ps.map pairD, rx.dp (cl_pairD p).nd, rp_pairsDp ry, (cl_pairD p).shaped (by decide), shaped_pairs ps, ?_⟩
  rw [any_pair]
  exact q _ _ H ⟨O, I.push (.bl _)⟩ hP
theorem ok_notInP : Ok2 X Tb (rNotInD X.K) (inPR fun k => !k) := by
  intro B O0 M Lk O δ σ τ H x y d1 d2 P I rx ry h Q q
  obtain ⟨p, ps, rfl, rfl, hP⟩ := h
  refine ⟨pairD p, ps.map pairD, rx.dp (cl_pairD p).nd, rp_pairsDp ry, (cl_pairD p).shaped (by decide), shaped_pairs ps, ?_⟩
  rw [any_pair]
  exact q _ _ H ⟨O, I.push (.bl _)⟩ hP
def inPN : D → D → (D → Prop) → Prop := fun d1 d2 P => ∃ ps : List (Int × Int), d1 = .none ∧ d2 = .list (ps.map pairD) ∧ P (.bool false)
theorem ok_inPN : Ok2 X Tb (rInD X.K) inPN := by
  intro B O0 M Lk O δ σ τ H x y d1 d2 P I rx ry h Q q
  obtain ⟨ps, rfl, rfl, hP⟩ := h
  refine ⟨.none, ps.map pairD, rx.dp rfl, rp_pairsDp ry, (cl_none 3).shaped (by decide), shaped_pairs ps, ?_⟩
  rw [any_pairN]
  exact q _ _ H ⟨O, I.push (.bl _)⟩ hP
/-! ### a, b = a list -/
theorem wpG_lst {k : Nat} {js : List Nat} {d : D} {P : Dl → Prop} (hg : PGs X es (gAll js)) (h : ∃ ds, d = .list ds ∧ js.length = ds.length ∧ P (setAll δ js ds)) (hc : X.calm = true) (hn : (assignEach es X.env).length = js.length := by rfl) (hst : (assignEach es X.env).findIdx? (·.1) = none := by rfl) :
    wpG X Tb (.Tuple es k pos) d δ P := fun B O0 M Lk σ τ H v J Q q => ⟨fun pins s u I r => by
  obtain ⟨ds, rfl, hl, h⟩ := h
  obtain ⟨O, J⟩ := J
  obtain ⟨J0, rv⟩ := J.pop1
  obtain ⟨a, xs, rfl, ha, rx⟩ := rv.list'
  exact (pg_unl (pos := pos) (k := k) hc hg hn hst).run pins s σ H _ u Q I r ⟨a, xs, rfl, SqL.of (vis_some ha).2, by rw [rx.length, hl], gAll_of J0 rx hl fun σ' J' => q _ σ' H ⟨O, J'⟩ h⟩⟩
end
end DL

set_option Elab.async false
set_option linter.all false
set_option maxRecDepth 100000
set_option maxHeartbeats 1000000
namespace K31
open PySem PySem.Spec L2 DL
theorem worldD_eq (ws : World') : worldD ws = .list ((ws.map pr).map pairD) := by
  unfold worldD
  rw [List.map_map]
  rfl
theorem pr_inj {a b : Nat × Nat} (h : pr a = pr b) : a = b := by
  obtain ⟨h1, h2⟩ := Prod.mk.inj h
  have e1 : a.1 = b.1 := Int.ofNat.inj h1
  have e2 : a.2 = b.2 := Int.ofNat.inj h2
  exact Prod.ext e1 e2
theorem mem_pr {ws : World'} {p : Nat × Nat} : pr p ∈ ws.map pr ↔ p ∈ ws := by
  constructor
  · intro h
    obtain ⟨q, hq, e⟩ := List.mem_map.mp h
    rw [← pr_inj e]
    exact hq
  · exact fun h => List.mem_map_of_mem h
structure RW (ks : Kinds) (lg : Log) (zs : World') : Prop where
  fit : ∀ p ∈ zs, p ∈ gPairs ks lg
  srt : SrtO.Srtd SrtO.lexB (zs.map pr)
  n1 : (zs.map (·.1)).Nodup
  n2 : (zs.map (·.2)).Nodup
  m1 : ∀ k ∈ gMust ks lg 0, k ∈ zs.map (·.1)
  m2 : ∀ k ∈ gMust ks lg 1, k ∈ zs.map (·.2)
  len : zs.length ≤ 6
  le : lg.entries.length ≤ 6
  lx : lg.exits.length ≤ 6
theorem nd_nats (xs : List Nat) : ndA (xs.map fun k => PyData.int (k : Nat)) = true := by
  induction xs with
  | nil => rfl
  | cons x r ih => exact ih
theorem flat_nats (xs : List Nat) : (xs.map fun k => (PyData.int (k : Nat) : D)).all flatD = true := by
  induction xs with
  | nil => rfl
  | cons x r ih => exact ih
theorem in_nats (xs : List Nat) (k : Nat) : ((xs.map fun k => (PyData.int (k : Nat) : D)).any fun y => eqF y (.int (k : Nat))) = decide (k ∈ xs) := by
  induction xs with
  | nil => rfl
  | cons x r ih =>
    rw [List.map_cons, List.any_cons, ih]
    show (((x : Int) == (k : Int)) || _) = _
    by_cases e : x = k
    · subst e
      simp
    · have e1 : ((x : Int) == (k : Int)) = false := by
        rw [beq_eq_false_iff_ne]
        intro z
        exact e (by omega)
      rw [e1, Bool.false_or]
      exact decide_eq_decide.mpr ⟨fun h => List.mem_cons_of_mem _ h, fun h => (List.mem_cons.mp h).resolve_left fun z => e z.symm⟩
section
variable {P : Program} {w : World} {K : PySem.W.Frag} {mg : Str → Option Value} {base : Heap} {Tb : List Addr}
abbrev nOv : List Str := ["log", "world", "one", "other"]
theorem scOv : FnScope nOv ["log", "world"] (defScope sOvert) := ⟨rfl, rfl, rfl, by decide +kernel, rfl, by decide +kernel, by decide +kernel⟩
abbrev GOver (P : Program) (w : World) (K : PySem.W.Frag) (mg : Str → Option Value) (base : Heap) (Tb : List Addr) (f : Addr) (fd : FuncData) : Prop := ∀ (lg : Log) (ws : World'), InR lg ws → FnOk P w K mg base CX0 1 f fd ["log", "world"] (FnV Tb [logD lg, worldD ws] (.bool (overt lg ws)))
theorem ok_over {f c : Addr} {fd : FuncData} (F : FunC K "_law_overtakes" "_law_overtakes" sOvert f c fd) : GOver P w K mg base Tb f fd := by
  intro lg ws hin
  refine fn_ok F scOv (by decide) rfl fun A outer s H E ds hr hl hp => ?_
  subst hp
  show wpSs _ _ _ [some (.d (logD lg)), some (.d (worldD ws)), none, none] _
  refine wpSs_cons (wpS_for (wpI_list (wpE_var 1 rfl ⟨_, rfl, ?_⟩)) PassesOwn.never rfl)
  refine ⟨fun i δ' => ((ws.take i).any fun p => ws.any fun q => over1 lg p q) = false ∧ ∃ s2 s3, δ' = [some (.d (logD lg)), some (.d (worldD ws)), s2, s3], ⟨rfl, _, _, rfl⟩, ?_, ?_⟩
  · rintro i d δ' hd ⟨hv, s2, s3, rfl⟩
    obtain ⟨p, hp, hm, rfl⟩ := map_get (f := fun p => pairD (pr p)) hd
    obtain ⟨h1, h2⟩ := hin p hm
    obtain ⟨l1, e1, a1, t1⟩ := at_line h1
    obtain ⟨l2, e2, a2, t2⟩ := at_line h2
    refine wpG_name 2 ?_ scOv.nd
    show wpSs _ _ _ [some (.d (logD lg)), some (.d (worldD ws)), some (.d (pairD (pr p))), s3] _
    refine wpSs_one (wpS_for (wpI_list (wpE_var 1 rfl ⟨_, rfl, ?_⟩)) PassesOwn.never rfl)
    refine ⟨fun j δ' => ((ws.take j).any fun q => over1 lg p q) = false ∧ ∃ s3, δ' = [some (.d (logD lg)), some (.d (worldD ws)), some (.d (pairD (pr p))), s3], ⟨rfl, _, rfl⟩, ?_, ?_⟩
    · rintro j d δ' he ⟨hj, s3, rfl⟩
      obtain ⟨q, hq, hmq, rfl⟩ := map_get (f := fun p => pairD (pr p)) he
      obtain ⟨h3, h4⟩ := hin q hmq
      obtain ⟨l3, e3, a3, t3⟩ := at_line h3
      obtain ⟨l4, e4, a4, t4⟩ := at_line h4
      refine wpG_name 3 ?_ scOv.nd
      show wpSs _ _ _ [some (.d (logD lg)), some (.d (worldD ws)), some (.d (pairD (pr p))), some (.d (pairD (pr q)))] _
      refine wpSs_one (wpS_if (wpT_mono (P := fun k => k = over1 lg p q) (wpT_W ?_) fun k hk => ?_))
      · refine wpW_and (wpT_cmp op_lt ok_lt (nomark _) (wpE_ix (wpE_ix (wpE_ix (wpE_var 0 rfl (wpE_int ⟨_, rfl, wpE_ix (wpE_var 2 rfl (wpE_int ⟨_, rfl, ⟨_, a1, wpE_int ⟨_, rfl, ?_⟩⟩⟩))⟩))))))
        refine wpE_ix (wpE_ix (wpE_ix (wpE_var 0 rfl (wpE_int ⟨_, rfl, wpE_ix (wpE_var 3 rfl (wpE_int ⟨_, rfl, ⟨_, a3, wpE_int ⟨_, rfl, r_lt ⟨_, rfl, ?_⟩⟩⟩⟩))⟩))))
        unfold over1
        rw [t1, t3]
        by_cases hlt : ti lg.entries p.1 < ti lg.entries q.1
        · rw [if_pos (decide_eq_true hlt)]
          refine wpW_and1 (wpT_cmp op_gt ok_lt (nomark _) (wpE_ix (wpE_ix (wpE_ix (wpE_var 0 rfl (wpE_int ⟨_, rfl, wpE_ix (wpE_var 2 rfl (wpE_int ⟨_, rfl, ⟨_, a2, wpE_int ⟨_, rfl, ?_⟩⟩⟩))⟩))))))
          refine wpE_ix (wpE_ix (wpE_ix (wpE_var 0 rfl (wpE_int ⟨_, rfl, wpE_ix (wpE_var 3 rfl (wpE_int ⟨_, rfl, ⟨_, a4, wpE_int ⟨_, rfl, r_lt ⟨_, rfl, ?_⟩⟩⟩⟩))⟩))))
          rw [t2, t4, decide_eq_true hlt, Bool.true_and]
        · rw [if_neg (show ¬ (decide (ti lg.entries p.1 < ti lg.entries q.1) = true) from fun z => hlt (of_decide_eq_true z)), decide_eq_false hlt]
          rfl
      subst hk
      cases hb : over1 lg p q with
      | true =>
        refine iteT (wpSs_one (wpS_ret (wpE_bool ?_)))
        have : overt lg ws = true := List.any_eq_true.mpr ⟨p, hm, List.any_eq_true.mpr ⟨q, hmq, hb⟩⟩
        show PyData.bool true = PyData.bool (overt lg ws)
        rw [this]
      | false =>
        refine iteF (wpSs_nil ⟨?_, _, rfl⟩)
        rw [List.take_succ, hq, List.any_append, hj]
        show (false || (over1 lg p q || false)) = false
        rw [hb]
        rfl
    · rintro δ' ⟨hj, s3, rfl⟩
      rw [List.length_map, List.take_length] at hj
      refine ⟨?_, _, _, rfl⟩
      rw [List.take_succ, hp, List.any_append, hv]
      show (false || ((ws.any fun q => over1 lg p q) || false)) = false
      rw [hj]
      rfl
  · rintro δ' ⟨hv, s2, s3, rfl⟩
    rw [List.length_map, List.take_length] at hv
    refine wpSs_one (wpS_ret (wpE_bool ?_))
    show PyData.bool false = PyData.bool (overt lg ws)
    have : overt lg ws = false := hv
    rw [this]
/-! ### what is a world, told for worlds -/
abbrev nIW : List Str := ["graph", "value", "one", "gate", "numbers", "k"]
theorem scIW : FnScope nIW ["graph", "value"] (defScope sIsWorld) := ⟨rfl, rfl, rfl, by decide +kernel, rfl, by decide +kernel, by decide +kernel⟩
abbrev GIsW (P : Program) (w : World) (K : PySem.W.Frag) (mg : Str → Option Value) (base : Heap) (Tb : List Addr) (f : Addr) (fd : FuncData) : Prop := ∀ (ks : Kinds) (lg : Log) (zs : World'), RW ks lg zs → FnOk P w K mg base CX0 1 f fd ["graph", "value"] (FnV Tb [graphD ks lg, worldD zs] (.bool true))
theorem ok_isW {f c : Addr} {fd : FuncData} (F : FunC K "_law_is_world" "_law_is_world" sIsWorld f c fd) (m_isinstance : mg "isinstance" = none) (m_list : mg "list" = none) (m_range : mg "range" = none) (m_len : mg "len" = none) (m_set : mg "set" = none) (m_sorted : mg "sorted" = none) : GIsW P w K mg base Tb f fd := by
  intro ks lg zs hz
  refine fn_ok F scIW (by decide) rfl fun A outer s H E ds hr hl hp => ?_
  subst hp
  have hu : (A.deeper (PyProof.Rows.envOfC "_law_is_world" (defScope sIsWorld) s.heap.objs.size f (.ref c))).units + 1 < cLine := by have := hr.un; omega
  have hu65 : (A.deeper (PyProof.Rows.envOfC "_law_is_world" (defScope sIsWorld) s.heap.objs.size f (.ref c))).units + 65 < cLine := by have := hr.un; omega
  have hzl := hz.len
  show wpSs _ _ _ [some (.d (graphD ks lg)), some (.d (worldD zs)), none, none, none, none] _
  refine wpSs_cons (wpS_if (wpT_mono (P := fun k => k = false) (wpT_W ?_) fun k hk => ?_))
  · refine wpW_or (wpT_not (wpT_val (wpE_isi m_isinstance m_list PyProof.Rows.boot_list (wpE_var 1 rfl ⟨true, rfl, ⟨_, rfl, iteF ?_⟩⟩))))
    refine wpW_or1 (wpT_cmp op_neP (ok_neNil hr.units) (nomark _) (wpE_lcG (c := some _) 2 rfl (wpI_list (wpE_var 1 rfl ⟨_, rfl, ?_⟩)) rfl scIW.nd (blkOk_by (N := nIW) (sc := defScope sIsWorld) (by decide +kernel)) rfl))
    refine ⟨?_, fun i acc => acc = [], rfl, fun i d acc hd hv => ⟨fun b => b = false, fun z H C cl fp => ?_, fun h => Bool.noConfusion h, fun _ => hv⟩, fun acc hv => ?_⟩
    · rw [List.length_map]
      exact small36 (by omega)
    · obtain ⟨p, hp, hm, rfl⟩ := map_get (f := fun p => pairD (pr p)) hd
      show wpT _ _ _ [some (.d (graphD ks lg)), some (.d (worldD zs)), some (.d (pairD (pr p))), none, none, none] _
      refine wpT_cmp (op_notInD hu65) ok_notInP rfl (wpE_var 2 rfl (wpE_dix hu (wpE_var 0 rfl (wpE_str ⟨worldD (gPairs ks lg), rfl, ⟨.inr "pairs", rfl⟩, ?_⟩))))
      refine ⟨pr p, (gPairs ks lg).map pr, rfl, worldD_eq _, _, rfl, ?_⟩
      rw [decide_eq_true (mem_pr.mpr (hz.fit p hm))]
      rfl
    · rw [hv]
      exact wpE_lst (wpA_nil ⟨Nat.zero_le _, ⟨rfl, rfl⟩, _, rfl, rfl⟩)
  subst hk
  refine iteF (wpSs_nil ?_)
  show wpSs _ _ _ [some (.d (graphD ks lg)), some (.d (worldD zs)), none, none, none, none] _
  refine wpSs_cons (wpS_for (wpI_range m_range (wpA_cons (wpE_int (wpA_nil ⟨_, rfl, ⟨by decide, by decide⟩, ?_⟩)))) PassesOwn.never rfl)
  refine ⟨fun g δ' => ∃ s3 s4, δ' = [some (.d (graphD ks lg)), some (.d (worldD zs)), none, s3, s4, none], ⟨_, _, rfl⟩, ?_, ?_⟩
  · rintro g d δ' hd ⟨s3, s4, rfl⟩
    obtain ⟨hg, rfl⟩ := rng_get hd
    have hg2 : g < 2 := hg
    have hg01 : g = 0 ∨ g = 1 := by omega
    obtain ⟨sel, hsel, hnd, hmu⟩ : ∃ sel : Nat × Nat → Nat, (∀ p : Nat × Nat, atI [(PyData.int (p.1 : Nat) : D), .int (p.2 : Nat)] (g : Nat) = some (.int (sel p : Nat))) ∧ (zs.map sel).Nodup ∧ ∀ k ∈ gMust ks lg g, k ∈ zs.map sel := by
      rcases hg01 with rfl | rfl
      · exact ⟨(·.1), fun p => rfl, hz.n1, hz.m1⟩
      · exact ⟨(·.2), fun p => rfl, hz.n2, hz.m2⟩
    obtain ⟨mus, hmus, emus⟩ : ∃ mus : List Nat, mus = gMust ks lg g ∧ atI [natsD (gMust ks lg 0), natsD (gMust ks lg 1)] (g : Nat) = some (natsD mus) := by
      rcases hg01 with rfl | rfl
      · exact ⟨_, rfl, rfl⟩
      · exact ⟨_, rfl, rfl⟩
    refine wpG_name 3 ?_ scIW.nd
    show wpSs _ _ _ [some (.d (graphD ks lg)), some (.d (worldD zs)), none, some (.d (.int (g : Nat))), s4, none] _
    refine wpSs_cons (wpS_set 4 (wpE_lcG (c := none) 2 rfl (wpI_list (wpE_var 1 rfl ⟨_, rfl, ?_⟩)) rfl scIW.nd (blkOk_by (N := nIW) (sc := defScope sIsWorld) (by decide +kernel)) rfl) scIW.nd)
    refine ⟨?_, fun i acc => acc = ((zs.take i).map sel).map fun k => PyData.int (k : Nat), rfl, fun i d acc hd hv z H C cl fp => ?_, fun acc hv => ?_⟩
    · rw [List.length_map]
      exact small36 (by omega)
    · obtain ⟨p, hp, hm, rfl⟩ := map_get (f := fun p => pairD (pr p)) hd
      show wpE _ _ _ [some (.d (graphD ks lg)), some (.d (worldD zs)), some (.d (pairD (pr p))), some (.d (.int (g : Nat))), s4, none] _
      refine wpE_ix (wpE_var 2 rfl (wpE_var 3 rfl ⟨_, hsel p, ?_⟩))
      rw [hv]
      show ((zs.take i).map sel).map _ ++ [PyData.int (sel p : Nat)] = ((zs.take (i + 1)).map sel).map _
      rw [List.take_succ, hp, List.map_append, List.map_append]
      rfl
    rw [List.length_map, List.take_length] at hv
    subst hv
    show wpSs _ _ _ [some (.d (graphD ks lg)), some (.d (worldD zs)), none, some (.d (.int (g : Nat))), some (.d (natsD (zs.map sel))), none] _
    refine wpSs_one (wpS_if (wpT_mono (P := fun k => k = false) (wpT_W ?_) fun k hk => ?_))
    · refine wpW_or (wpT_cmp (op_neDD hr.units) ok_ne (nomark _) (wpE_lenSet rfl m_len m_set (wpE_var 4 rfl ⟨(zs.map sel).map fun k => ((k : Nat) : Int), by unfold natsD; rw [List.map_map, List.map_map, List.map_map]; rfl, ?_, fun L hL hLm _ => ?_⟩)))
      · rw [List.length_map, List.length_map]
        omega
      · have hnd2 : ((zs.map sel).map fun k => ((k : Nat) : Int)).Nodup := List.pairwise_map.mpr (hnd.imp fun hab e => hab (by omega))
        have hpm : L.Perm ((zs.map sel).map fun k => ((k : Nat) : Int)) := (List.perm_ext_iff_of_nodup hL hnd2).mpr hLm
        refine wpE_callB call_lenX ok_len m_len boot_len' (wpA_cons (wpE_var 4 rfl (wpA_nil ⟨(fun _ z => nomatch z), r_lenL (r_eqI ⟨_, rfl, ?_⟩)⟩)))
        rw [List.length_map, hpm.length_eq, List.length_map, decide_eq_true rfl]
        refine iteF ?_
        refine wpW_or1 (wpT_cmp op_neP (ok_neNil hr.units) (nomark _) (wpE_lcG (c := some _) 5 rfl (wpI_list (wpE_ix (wpE_dix hu (wpE_var 0 rfl (wpE_str ⟨.list [natsD (gMust ks lg 0), natsD (gMust ks lg 1)], rfl, ⟨.inr "must", rfl⟩, wpE_var 3 rfl ⟨_, emus, _, rfl, ?_⟩⟩))))) rfl scIW.nd (blkOk_by (N := nIW) (sc := defScope sIsWorld) (by decide +kernel)) rfl))
        refine ⟨?_, fun i acc => acc = [], rfl, fun i d acc hd hv => ⟨fun b => b = false, fun z H C cl fp => ?_, fun h => Bool.noConfusion h, fun _ => hv⟩, fun acc hv => ?_⟩
        · rw [List.length_map, hmus]
          have h1 := gMus_len ks lg g (gl lg g).length
          have h2 : (gl lg g).length ≤ 6 := by
            unfold gl
            split
            · exact hz.le
            · exact hz.lx
          change (gMust ks lg g).length ≤ _ at h1
          exact small36 (by omega)
        · obtain ⟨k, hk, hm, rfl⟩ := map_get (f := fun k => PyData.int (k : Nat)) hd
          show wpT _ _ _ [some (.d (graphD ks lg)), some (.d (worldD zs)), none, some (.d (.int (g : Nat))), some (.d (natsD (zs.map sel))), some (.d (.int (k : Nat)))] _
          refine wpT_cmp op_notIn_seq (ok_in true) rfl (wpE_var 5 rfl (wpE_var 4 rfl ⟨⟨rfl, flat_nats _⟩, _, rfl, ?_⟩))
          rw [in_nats, decide_eq_true (hmu k (by rw [← hmus]; exact hm))]
          rfl
        · rw [hv]
          exact wpE_lst (wpA_nil ⟨Nat.zero_le _, ⟨rfl, rfl⟩, _, rfl, rfl⟩)
    subst hk
    exact iteF (wpSs_nil ⟨_, _, rfl⟩)
  · rintro δ' ⟨s3, s4, rfl⟩
    refine wpSs_one (wpS_ret (wpE_cmp (op_eqDD hr.units) ok_eq (nomark _) (wpE_var 1 rfl (wpE_callB cr_sortedPO ok_sortP m_sorted boot_sorted2 (wpA_cons (wpE_var 1 rfl (wpA_nil ⟨zs.map pr, by rw [worldD_eq], fun qs hq hs => ?_⟩)))))))
    have e : qs = zs.map pr := srt_uniq hs hz.srt hq
    subst e
    rw [worldD_eq]
    refine r_eqLL (clA_map fun p _ => cl_tuple (p := 39) (clA_cons (cl_int _ _) (clA_cons (cl_int _ _) (clA_nil _)))) (clA_map fun p _ => cl_tuple (p := 39) (clA_cons (cl_int _ _) (clA_cons (cl_int _ _) (clA_nil _)))) ?_
    show PyData.bool (PyData.eqvAll _ _) = _
    rw [eqv_map eqv_pairD, decide_eq_true rfl]
end
end K31

set_option Elab.async false
set_option linter.all false
set_option maxRecDepth 100000
set_option maxHeartbeats 1000000
namespace K31
open PySem PySem.Spec L2 DL
/-! ### all worlds -/
structure PreW (ks : Kinds) (lg : Log) (i : Nat) (ws : World') : Prop where
  fit : ∀ p ∈ ws, p ∈ gPairs ks lg ∧ p.1 < i
  asc : (ws.map (·.1)).Pairwise (· < ·)
  n2 : (ws.map (·.2)).Nodup
  m1 : ∀ k ∈ gMust ks lg 0, k < i → k ∈ ws.map (·.1)
  len : ws.length ≤ i
theorem PreW.put {ks : Kinds} {lg : Log} {i : Nat} {ws : World'} (h : PreW ks lg i ws) {p : Nat × Nat} (hp : p ∈ gPairs ks lg) (h1 : p.1 = i) (h2 : p.2 ∉ ws.map (·.2)) : PreW ks lg (i + 1) (ws ++ [p]) := by
  refine ⟨fun q hq => ?_, ?_, ?_, fun k hk hlt => ?_, ?_⟩
  · rcases List.mem_append.mp hq with hq | hq
    · exact ⟨(h.fit q hq).1, Nat.lt_succ_of_lt (h.fit q hq).2⟩
    · rw [List.mem_singleton.mp hq]
      exact ⟨hp, by omega⟩
  · rw [List.map_append]
    refine List.pairwise_append.mpr ⟨h.asc, List.pairwise_singleton _ _, fun a ha b hb => ?_⟩
    obtain ⟨q, hq, rfl⟩ := List.mem_map.mp ha
    have : b = p.1 := List.mem_singleton.mp hb
    have := (h.fit q hq).2
    omega
  · rw [List.map_append]
    refine List.nodup_append.mpr ⟨h.n2, List.nodup_cons.mpr ⟨(fun z => nomatch z), List.nodup_nil⟩, fun a ha b hb e => ?_⟩
    have e2 : b = p.2 := List.mem_singleton.mp hb
    rw [e, e2] at ha
    exact h2 ha
  · rw [List.map_append]
    by_cases e : k = i
    · exact List.mem_append_right _ (List.mem_singleton.mpr (by show k = p.1; omega))
    · exact List.mem_append_left _ (h.m1 k hk (by omega))
  · rw [List.length_append]
    have := h.len
    show ws.length + 1 ≤ i + 1
    omega
theorem PreW.skip {ks : Kinds} {lg : Log} {i : Nat} {ws : World'} (h : PreW ks lg i ws) (hi : i ∉ gMust ks lg 0) : PreW ks lg (i + 1) ws :=
  ⟨fun p hp => ⟨(h.fit p hp).1, Nat.lt_succ_of_lt (h.fit p hp).2⟩, h.asc, h.n2, fun k hk hlt => h.m1 k hk (by
    have : k ≠ i := fun e => hi (by rw [← e]; exact hk)
    omega), Nat.le_succ_of_le h.len⟩
structure GW (ks : Kinds) (lg : Log) (ws : World') : Prop where
  pre : PreW ks lg lg.entries.length ws
  m2 : ∀ k ∈ gMust ks lg 1, k ∈ ws.map (·.2)
theorem cnt_row (ks : Kinds) (lg : Log) (i n m : Nat) (h : n ≠ i) : (gRow ks lg n m).countP (fun p => decide (p.1 = i)) = 0 := by
  rw [List.countP_eq_zero]
  intro p hp
  unfold gRow at hp
  obtain ⟨j, _, rfl⟩ := List.mem_map.mp hp
  simpa using h
theorem cnt_pre (ks : Kinds) (lg : Log) (i : Nat) : ∀ n, (gPre ks lg n).countP (fun p => decide (p.1 = i)) ≤ if i < n then lg.exits.length else 0
  | 0 => Nat.zero_le _
  | n + 1 => by
    have ih := cnt_pre ks lg i n
    rw [gPre_succ, List.countP_append]
    by_cases e : n = i
    · subst e
      rw [if_neg (Nat.lt_irrefl n)] at ih
      rw [if_pos (Nat.lt_succ_self n)]
      have h1 := List.countP_le_length (p := fun p : Nat × Nat => decide (p.1 = n)) (l := gRow ks lg n lg.exits.length)
      have h2 := gRow_len ks lg n lg.exits.length
      omega
    · rw [cnt_row ks lg i n _ e]
      by_cases h : i < n
      · rw [if_pos h] at ih
        rw [if_pos (by omega)]
        omega
      · rw [if_neg h] at ih
        rw [if_neg (by omega)]
        omega
theorem cnt_pairs {ks : Kinds} {lg : Log} (i j : Nat) (h : lg.exits.length ≤ 6) : ((gPairs ks lg).take j).countP (fun p => decide (p.1 = i)) ≤ 6 := by
  have h1 : ((gPairs ks lg).take j).countP (fun p => decide (p.1 = i)) ≤ (gPairs ks lg).countP (fun p => decide (p.1 = i)) := (List.take_sublist j _).countP_le
  have h2 := cnt_pre ks lg i lg.entries.length
  change (gPairs ks lg).countP _ ≤ _ at h2
  split at h2 <;> omega
def scC1 : Scope := { kind := .function, names := [(".0", .local), ("pairs", .cell), ("graph", .cell)], isGenerator := false, isCoroutine := false }
def scC2 : Scope := { kind := .function, names := [(".0", .local), ("k", .local), ("pairs", .cell)], isGenerator := false, isCoroutine := false }
theorem clA_nats (xs : List Nat) : ClA 40 (xs.map fun k => PyData.int (k : Nat)) := clA_map fun _ _ => cl_int _ _
section
variable {P : Program} {w : World} {K : PySem.W.Frag} {mg : Str → Option Value} {base : Heap} {Tb : List Addr}
abbrev nW : List Str := ["graph", "log", "found", "entry_number", "longer", "pairs", "used", "one", "pair", "k"]
theorem scW : FnScope nW ["graph", "log"] (defScope sWorlds) := ⟨rfl, rfl, rfl, by decide +kernel, rfl, by decide +kernel, by decide +kernel⟩
abbrev GWorlds (P : Program) (w : World) (K : PySem.W.Frag) (mg : Str → Option Value) (base : Heap) (Tb : List Addr) (f : Addr) (fd : FuncData) : Prop := ∀ (ks : Kinds) (lg : Log), lg.entries.length ≤ 6 → lg.exits.length ≤ 6 →
  FnOk P w K mg base CX0 1 f fd ["graph", "log"] (spD Tb 0 2 (fun ds => ds = [graphD ks lg, logD lg]) fun _ d => ∃ wss : List World', d = .list (wss.map worldD) ∧ wss.length ≤ 117649 ∧ ∀ ws ∈ wss, GW ks lg ws)
theorem ok_worlds {f c : Addr} {fd : FuncData} (F : FunC K "_law_worlds" "_law_worlds" sWorlds f c fd) (m_range : mg "range" = none) (m_len : mg "len" = none) : GWorlds P w K mg base Tb f fd := by
  intro ks lg hle hlx
  refine fn_ok F scW (by decide) rfl fun A outer s H E ds hr hl hp => ?_
  subst hp
  have hu : (A.deeper (PyProof.Rows.envOfC "_law_worlds" (defScope sWorlds) s.heap.objs.size f (.ref c))).units + 1 < cLine := by have := hr.un; omega
  have h76 : ∀ i, i < lg.entries.length → 7 ^ (i + 1) = 7 * 7 ^ i ∧ 7 ^ (i + 1) ≤ 117649 := fun i hi => by
    refine ⟨by rw [Nat.pow_succ]; omega, ?_⟩
    exact Nat.le_trans (Nat.pow_le_pow_right (by decide) (show i + 1 ≤ 6 by omega)) (by decide)
  have hsz : ∀ n, n ≤ 117649 → n < sizeLine := fun n h => Nat.lt_of_le_of_lt h (by decide)
  show wpSs _ _ _ [some (.d (graphD ks lg)), some (.d (logD lg)), none, none, none, none, none, none, none, none] _
  refine wpSs_cons (wpS_set 2 ?_ scW.nd)
  repeat (first | ((with_reducible show wpA _ _ (_ :: _) _ _); refine wpA_cons ?_) | with_reducible refine wpA_nil ?_ | with_reducible refine wpE_int ?_ | with_reducible refine wpE_none ?_ | with_reducible refine wpE_bool ?_ | with_reducible refine wpE_str ?_ | with_reducible refine r_addI ?_ | with_reducible refine r_subI ?_ | with_reducible refine r_small (by with_unfolding_all rfl) ?_ | with_reducible refine r_addL (by with_unfolding_all rfl) ?_ | ((with_reducible show wpE _ _ (.Name _ _) _ _); first | refine wpE_var 0 rfl ?_ | refine wpE_var 1 rfl ?_ | refine wpE_var 2 rfl ?_ | refine wpE_var 3 rfl ?_ | refine wpE_var 4 rfl ?_ | refine wpE_var 5 rfl ?_ | refine wpE_var 6 rfl ?_ | refine wpE_var 7 rfl ?_ | refine wpE_var 8 rfl ?_ | refine wpE_var 9 rfl ?_ | refine wpE_var 10 rfl ?_ | refine wpE_var 11 rfl ?_ | refine wpE_var 12 rfl ?_ | refine wpE_var 13 rfl ?_) | ((with_reducible show wpE _ _ (.Tuple _ _ _) _ _); refine wpE_tup ?_) | ((with_reducible show wpE _ _ (.List _ _) _ _); refine wpE_lst ?_) | ((with_reducible show wpE _ _ (.BinOp _ .Add _ _) _ _); refine wpE_bin op_addD ok_add ?_) | ((with_reducible show wpE _ _ (.BinOp _ .Sub _ _) _ _); refine wpE_bin op_sub ok_sub ?_) | ((with_reducible show wpE _ _ (.Dict [_, _] _ _) _ _); refine wpE_disp2 ?_) | ((with_reducible show wpE _ _ (.Dict [_] _ _) _ _); refine wpE_disp1 ?_) | with_reducible refine r_d2 (by decide +kernel) ?_ | with_reducible refine r_d1 ?_)
  show wpSs _ _ _ [some (.d (graphD ks lg)), some (.d (logD lg)), some (.d (.list [.list []])), none, none, none, none, none, none, none] _
  refine wpSs_cons (wpS_for (wpI_range m_range (wpA_cons (wpE_callB call_lenX ok_len m_len boot_len' (wpA_cons (wpE_ix (wpE_var 1 rfl (wpE_int ⟨_, rfl, wpA_nil ⟨(fun _ z => nomatch z), r_lenL (wpA_nil ⟨_, rfl, ⟨by omega, by rw [List.length_map]; omega⟩, ?_⟩)⟩⟩))))))) PassesOwn.never rfl)
  have hle' : (↑(lg.entries.map lineD).length : Int).toNat = lg.entries.length := by rw [List.length_map]; omega
  rw [hle']
  refine ⟨fun i δ' => ∃ (fs : List World') (s3 s4 s5 s6 s8 : Option Sl), (∀ ws ∈ fs, PreW ks lg i ws) ∧ fs.length ≤ 7 ^ i ∧ δ' = [some (.d (graphD ks lg)), some (.d (logD lg)), some (.d (.list (fs.map worldD))), s3, s4, s5, s6, none, s8, none],
    ⟨[[]], _, _, _, _, _, fun ws hws => ?_, Nat.le_refl _, rfl⟩, ?_, ?_⟩
  · rw [List.mem_singleton.mp hws]
    exact ⟨(fun _ z => nomatch z), List.Pairwise.nil, List.nodup_nil, fun k _ z => absurd z (Nat.not_lt_zero k), Nat.le_refl _⟩
  · rintro i d δ' hd ⟨fs, s3, s4, s5, s6, s8, hfs, hfl, rfl⟩
    obtain ⟨hi, rfl⟩ := rng_get hd
    obtain ⟨p1, p2⟩ := h76 i hi
    refine wpG_name 3 ?_ scW.nd
    show wpSs _ _ _ [some (.d (graphD ks lg)), some (.d (logD lg)), some (.d (.list (fs.map worldD))), some (.d (.int (i : Nat))), s4, s5, s6, none, s8, none] _
    refine wpSs_cons (wpS_own 4 (wpF_lst (wpA_nil ⟨Nat.zero_le _, ?_⟩)) scW.nd)
    show wpSs _ _ _ [some (.d (graphD ks lg)), some (.d (logD lg)), some (.d (.list (fs.map worldD))), some (.d (.int (i : Nat))), some (.own (.lst [])), s5, s6, none, s8, none] _
    refine wpSs_cons (wpS_for (wpI_list (wpE_var 2 rfl ⟨_, rfl, ?_⟩)) PassesOwn.never rfl)
    refine ⟨fun m δ' => ∃ (ls : List World') (s5 s6 s8 : Option Sl), (∀ ws ∈ ls, PreW ks lg (i + 1) ws) ∧ ls.length ≤ 7 * m ∧ δ' = [some (.d (graphD ks lg)), some (.d (logD lg)), some (.d (.list (fs.map worldD))), some (.d (.int (i : Nat))), some (.own (.lst (ls.map worldD))), s5, s6, none, s8, none],
      ⟨[], _, _, _, (fun _ z => nomatch z), Nat.zero_le _, rfl⟩, ?_, ?_⟩
    · rintro m d δ' hd ⟨ls, s5, s6, s8, hls, hll, rfl⟩
      obtain ⟨ws, hws, hwm, rfl⟩ := map_get (f := worldD) hd
      have hm : m < fs.length := (List.getElem?_eq_some_iff.mp hws).1
      have hpre := hfs ws hwm
      have hwl := hpre.len
      refine wpG_name 5 ?_ scW.nd
      show wpSs _ _ _ [some (.d (graphD ks lg)), some (.d (logD lg)), some (.d (.list (fs.map worldD))), some (.d (.int (i : Nat))), some (.own (.lst (ls.map worldD))), some (.d (worldD ws)), s6, none, s8, none] _
      refine wpSs_cons (wpS_setLc (c := none) 6 7 rfl (wpI_list (wpE_var 5 rfl ⟨_, rfl, ?_⟩)) rfl scW.nd (blkOk_by (N := nW) (sc := defScope sWorlds) (by decide +kernel)) rfl)
      refine ⟨?_, fun i acc => acc = ((ws.take i).map (·.2)).map fun k => PyData.int (k : Nat), rfl, fun j d acc hd hv z H C cl fp => ?_, fun acc hv => ?_⟩
      · rw [List.length_map]
        exact small36 (by omega)
      · obtain ⟨p, hp, hpm, rfl⟩ := map_get (f := fun p => pairD (pr p)) hd
        refine wpE_ix (wpE_var 7 rfl (wpE_int ⟨_, rfl, ?_⟩))
        rw [hv]
        show ((ws.take j).map (·.2)).map _ ++ [PyData.int (p.2 : Nat)] = ((ws.take (j + 1)).map (·.2)).map _
        rw [List.take_succ, hp, List.map_append, List.map_append]
        rfl
      rw [List.length_map, List.take_length] at hv
      subst hv
      show wpSs _ _ _ [some (.d (graphD ks lg)), some (.d (logD lg)), some (.d (.list (fs.map worldD))), some (.d (.int (i : Nat))), some (.own (.lst (ls.map worldD))), some (.d (worldD ws)), some (.d (natsD (ws.map (·.2)))), none, s8, none] _
      refine wpSs_cons (wpS_for (wpI_list (wpE_dix hu (wpE_var 0 rfl (wpE_str ⟨worldD (gPairs ks lg), rfl, ⟨.inr "pairs", rfl⟩, _, rfl, ?_⟩)))) PassesOwn.never rfl)
      refine ⟨fun j δ' => ∃ (ls : List World') (s8 : Option Sl), (∀ ws ∈ ls, PreW ks lg (i + 1) ws) ∧ ls.length ≤ 7 * m + ((gPairs ks lg).take j).countP (fun p => decide (p.1 = i)) ∧ δ' = [some (.d (graphD ks lg)), some (.d (logD lg)), some (.d (.list (fs.map worldD))), some (.d (.int (i : Nat))), some (.own (.lst (ls.map worldD))), some (.d (worldD ws)), some (.d (natsD (ws.map (·.2)))), none, s8, none],
        ⟨ls, _, hls, Nat.le_trans hll (Nat.le_add_right _ _), rfl⟩, ?_, ?_⟩
      · rintro j d δ' hd ⟨ls, s8, hls, hll, rfl⟩
        obtain ⟨p, hp, hpm, rfl⟩ := map_get (f := fun p => pairD (pr p)) hd
        have hcnt := cnt_pairs (ks := ks) i j hlx
        have htk : ((gPairs ks lg).take (j + 1)).countP (fun p => decide (p.1 = i)) = ((gPairs ks lg).take j).countP (fun p => decide (p.1 = i)) + if p.1 = i then 1 else 0 := by
          rw [List.take_succ, hp, List.countP_append]
          congr 1
          show List.countP _ [p] = _
          rw [List.countP_singleton]
          by_cases e : p.1 = i
          · rw [decide_eq_true e, if_pos e]; rfl
          · rw [decide_eq_false e, if_neg e]; rfl
        refine wpG_name 8 ?_ scW.nd
        show wpSs _ _ _ [some (.d (graphD ks lg)), some (.d (logD lg)), some (.d (.list (fs.map worldD))), some (.d (.int (i : Nat))), some (.own (.lst (ls.map worldD))), some (.d (worldD ws)), some (.d (natsD (ws.map (·.2)))), none, some (.d (pairD (pr p))), none] _
        refine wpSs_one (wpS_if (wpT_mono (P := fun k => k = (decide (p.1 = i) && !decide (p.2 ∈ ws.map (·.2)))) (wpT_W ?_) fun k hk => ?_))
        · refine wpW_and (wpT_cmp (op_eqDD hr.units) ok_eq (nomark _) (wpE_ix (wpE_var 8 rfl (wpE_int ⟨_, rfl, wpE_var 3 rfl (r_eqI ⟨_, rfl, ?_⟩)⟩))))
          have ei : decide (((p.1 : Nat) : Int) = ((i : Nat) : Int)) = decide (p.1 = i) := decide_eq_decide.mpr ⟨fun h => by omega, fun h => by rw [h]⟩
          show if decide (((p.1 : Nat) : Int) = ((i : Nat) : Int)) = true then _ else _
          rw [ei]
          cases decide (p.1 = i) with
          | false => exact iteF rfl
          | true =>
            refine iteT (wpW_and1 (wpT_cmp op_notIn_seq (ok_in true) rfl (wpE_ix (wpE_var 8 rfl (wpE_int ⟨_, rfl, wpE_var 6 rfl ⟨⟨rfl, flat_nats _⟩, _, rfl, ?_⟩⟩)))))
            show (!_) = (true && _)
            rw [Bool.true_and]
            exact congrArg (!·) (in_nats (ws.map (·.2)) p.2)
        subst hk
        cases hb : (decide (p.1 = i) && !decide (p.2 ∈ ws.map (·.2))) with
        | false => exact iteF (wpSs_nil ⟨ls, _, hls, by rw [htk]; omega, rfl⟩)
        | true =>
          obtain ⟨b1, b2⟩ := Bool.and_eq_true_iff.mp hb
          have b1 := of_decide_eq_true b1
          have b2 : p.2 ∉ ws.map (·.2) := by
            intro z
            rw [decide_eq_true z] at b2
            cases b2
          refine iteT (wpSs_one (wpS_append 4 rfl ?_ (hpe := fun a b => pe_bm PySem.F.plainAttrs_list PySem.F.slot_list_append PySem.F.type_list_append mt_append a b)))
          refine wpE_bin op_addD ok_add (wpE_var 5 rfl ?_)
          repeat (first | ((with_reducible show wpA _ _ (_ :: _) _ _); refine wpA_cons ?_) | with_reducible refine wpA_nil ?_ | with_reducible refine wpE_int ?_ | with_reducible refine wpE_none ?_ | with_reducible refine wpE_bool ?_ | with_reducible refine wpE_str ?_ | with_reducible refine r_addI ?_ | with_reducible refine r_subI ?_ | with_reducible refine r_small (by with_unfolding_all rfl) ?_ | with_reducible refine r_addL (by with_unfolding_all rfl) ?_ | ((with_reducible show wpE _ _ (.Name _ _) _ _); first | refine wpE_var 0 rfl ?_ | refine wpE_var 1 rfl ?_ | refine wpE_var 2 rfl ?_ | refine wpE_var 3 rfl ?_ | refine wpE_var 4 rfl ?_ | refine wpE_var 5 rfl ?_ | refine wpE_var 6 rfl ?_ | refine wpE_var 7 rfl ?_ | refine wpE_var 8 rfl ?_ | refine wpE_var 9 rfl ?_ | refine wpE_var 10 rfl ?_ | refine wpE_var 11 rfl ?_ | refine wpE_var 12 rfl ?_ | refine wpE_var 13 rfl ?_) | ((with_reducible show wpE _ _ (.Tuple _ _ _) _ _); refine wpE_tup ?_) | ((with_reducible show wpE _ _ (.List _ _) _ _); refine wpE_lst ?_) | ((with_reducible show wpE _ _ (.BinOp _ .Add _ _) _ _); refine wpE_bin op_addD ok_add ?_) | ((with_reducible show wpE _ _ (.BinOp _ .Sub _ _) _ _); refine wpE_bin op_sub ok_sub ?_) | ((with_reducible show wpE _ _ (.Dict [_, _] _ _) _ _); refine wpE_disp2 ?_) | ((with_reducible show wpE _ _ (.Dict [_] _ _) _ _); refine wpE_disp1 ?_) | with_reducible refine r_d2 (by decide +kernel) ?_ | with_reducible refine r_d1 ?_)
          refine ⟨?_, ?_, ls ++ [ws ++ [p]], some (.d (pairD (pr p))), fun v hv => ?_, ?_, ?_⟩
          · rw [List.length_map]
            exact Nat.le_of_lt (small36 (show ws.length + 1 ≤ 100 by omega))
          · rw [List.length_map]
            exact hsz _ (by omega)
          · rcases List.mem_append.mp hv with hv | hv
            · exact hls v hv
            · rw [List.mem_singleton.mp hv]
              exact hpre.put hpm b1 b2
          · rw [List.length_append, htk, if_pos b1]
            show ls.length + 1 ≤ _
            omega
          · rw [List.map_append]
            show _ = [_, _, _, _, some (Sl.own (.lst (ls.map worldD ++ [worldD (ws ++ [p])]))), _, _, _, _, _]
            unfold worldD
            rw [List.map_append]
            rfl
      · rintro δ' ⟨ls, s8, hls, hll, rfl⟩
        rw [List.length_map, List.take_length] at hll
        have hcnt := cnt_pairs (ks := ks) i (gPairs ks lg).length hlx
        rw [List.take_length] at hcnt
        show wpSs _ _ _ [some (.d (graphD ks lg)), some (.d (logD lg)), some (.d (.list (fs.map worldD))), some (.d (.int (i : Nat))), some (.own (.lst (ls.map worldD))), some (.d (worldD ws)), some (.d (natsD (ws.map (·.2)))), none, s8, none] _
        refine wpSs_one (wpS_if (wpT_cmp op_notIn_seq (ok_in true) rfl (wpE_var 3 rfl (wpE_ix (wpE_dix hu (wpE_var 0 rfl (wpE_str ⟨.list [natsD (gMust ks lg 0), natsD (gMust ks lg 1)], rfl, ⟨.inr "must", rfl⟩, wpE_int ⟨_, rfl, ⟨rfl, flat_nats _⟩, _, rfl, ?_⟩⟩)))))))
        show if (!_) = true then _ else _
        rw [in_nats]
        by_cases hmu : i ∈ gMust ks lg 0
        · rw [decide_eq_true hmu]
          exact iteF (wpSs_nil ⟨ls, _, _, _, hls, by omega, rfl⟩)
        · rw [decide_eq_false hmu]
          refine iteT (wpSs_one (wpS_append 4 rfl ?_ (hpe := fun a b => pe_bm PySem.F.plainAttrs_list PySem.F.slot_list_append PySem.F.type_list_append mt_append a b)))
          refine wpE_var 5 rfl ⟨?_, ls ++ [ws], some (.d (worldD ws)), some (.d (natsD (ws.map (·.2)))), s8, fun v hv => ?_, ?_, ?_⟩
          · rw [List.length_map]
            exact hsz _ (by omega)
          · rcases List.mem_append.mp hv with hv | hv
            · exact hls v hv
            · rw [List.mem_singleton.mp hv]
              exact hpre.skip hmu
          · rw [List.length_append]
            show ls.length + 1 ≤ _
            omega
          · rw [List.map_append]
            rfl
    · rintro δ' ⟨ls, s5, s6, s8, hls, hll, rfl⟩
      rw [List.length_map] at hll
      refine wpSs_thaw 4 rfl ?_
      show wpSs _ _ _ [some (.d (graphD ks lg)), some (.d (logD lg)), some (.d (.list (fs.map worldD))), some (.d (.int (i : Nat))), some (.d (.list (ls.map worldD))), s5, s6, none, s8, none] _
      refine wpSs_one (wpS_set 2 (wpE_var 4 rfl ⟨ls, _, _, _, _, _, hls, by omega, rfl⟩) scW.nd)
  · rintro δ' ⟨fs, s3, s4, s5, s6, s8, hfs, hfl, rfl⟩
    rw [List.length_map, List.length_range] at hfs hfl
    have hfl6 : fs.length ≤ 117649 := Nat.le_trans hfl (Nat.le_trans (Nat.pow_le_pow_right (by decide) hle) (by decide))
    refine wpSs_forget 5 ?_
    show wpSs _ _ _ [some (.d (graphD ks lg)), some (.d (logD lg)), some (.d (.list (fs.map worldD))), s3, s4, none, s6, none, s8, none] _
    refine wpSs_one (wpS_ret (wpE_lcK (c := some _) 5 rfl (wpI_list (wpE_var 2 rfl ⟨_, rfl, ?_⟩)) rfl scW.nd (blkOk_by (N := nW) (sc := defScope sWorlds) (by decide +kernel)) rfl))
    refine ⟨by rw [List.length_map]; exact hsz _ hfl6, fun m acc => ∃ out : List World', acc = out.map worldD ∧ out.length ≤ m ∧ ∀ ws ∈ out, GW ks lg ws, ⟨[], rfl, Nat.le_refl _, (fun _ z => nomatch z)⟩, fun m d acc hd hv => ?_, fun acc hv => ?_⟩
    · obtain ⟨ws, hws, hwm, rfl⟩ := map_get (f := worldD) hd
      obtain ⟨out, rfl, ho, hg⟩ := hv
      have hpre := hfs ws hwm
      have hwl := hpre.len
      refine ⟨fun b => b = true → ∀ k ∈ gMust ks lg 1, k ∈ ws.map (·.2), fun z H C cl fp => ?_, fun hT z H C cl fp => ?_, fun _ => ⟨out, rfl, Nat.le_succ_of_le ho, hg⟩⟩
      · show wpT _ _ _ [some (.d (graphD ks lg)), some (.d (logD lg)), some (.d (.list (fs.map worldD))), s3, s4, some (.d (worldD ws)), s6, none, s8, none] _
        refine wpT_cmp (op_eqDD hr.units) ok_eq (nomark _) (wpE_lcG (c := some _) 9 rfl (wpI_list (wpE_ix (wpE_dix hu (wpE_var 0 rfl (wpE_str ⟨.list [natsD (gMust ks lg 0), natsD (gMust ks lg 1)], rfl, ⟨.inr "must", rfl⟩, wpE_int ⟨_, rfl, _, rfl, ?_⟩⟩))))) rfl scW.nd (blkOk_by (N := nW) (sc := scC1) (by decide +kernel)) rfl)
        refine ⟨?_, fun m acc => ∃ out : List Nat, acc = (out.map fun k => PyData.int (k : Nat)) ∧ (out = [] → ∀ k ∈ (gMust ks lg 1).take m, k ∈ ws.map (·.2)), ⟨[], rfl, fun _ _ z => nomatch z⟩, fun m d acc hd hv => ?_, fun acc hv => ?_⟩
        · rw [List.length_map]
          have h1 := gMus_len ks lg 1 (gl lg 1).length
          have h2 : (gl lg 1).length ≤ 6 := hlx
          change (gMust ks lg 1).length ≤ _ at h1
          exact small36 (by omega)
        · obtain ⟨k, hk, hkm, rfl⟩ := map_get (f := fun k => PyData.int (k : Nat)) hd
          obtain ⟨out, rfl, ho⟩ := hv
          have hstep : k ∈ ws.map (·.2) → out = [] → ∀ k ∈ (gMust ks lg 1).take (m + 1), k ∈ ws.map (·.2) := fun hkw e q hq => by
            rw [List.take_succ, hk] at hq
            rcases List.mem_append.mp hq with hq | hq
            · exact ho e q hq
            · have : q = k := by simpa using hq
              rw [this]
              exact hkw
          refine ⟨fun b => b = false → k ∈ ws.map (·.2), fun z H C cl fp => ?_, fun hT z H C cl fp => ?_, fun hT => ⟨out, rfl, hstep (hT rfl)⟩⟩
          · show wpT _ _ _ [some (.d (graphD ks lg)), some (.d (logD lg)), some (.d (.list (fs.map worldD))), s3, s4, some (.d (worldD ws)), s6, none, s8, some (.d (.int (k : Nat)))] _
            refine wpT_cmp op_notIn_seq (ok_in true) rfl (wpE_var 9 rfl (wpE_lcG (c := none) 7 rfl (wpI_list (wpE_var 5 rfl ⟨_, rfl, ?_⟩)) rfl scW.nd (blkOk_by (N := nW) (sc := scC2) (by decide +kernel)) rfl))
            refine ⟨?_, fun i acc => acc = ((ws.take i).map (·.2)).map fun k => PyData.int (k : Nat), rfl, fun j d acc hd hv z H C cl fp => ?_, fun acc hv => ?_⟩
            · rw [List.length_map]
              exact small36 (by omega)
            · obtain ⟨p, hp, hpm, rfl⟩ := map_get (f := fun p => pairD (pr p)) hd
              refine wpE_ix (wpE_var 7 rfl (wpE_int ⟨_, rfl, ?_⟩))
              rw [hv]
              show ((ws.take j).map (·.2)).map _ ++ [PyData.int (p.2 : Nat)] = ((ws.take (j + 1)).map (·.2)).map _
              rw [List.take_succ, hp, List.map_append, List.map_append]
              rfl
            · rw [List.length_map, List.take_length] at hv
              subst hv
              refine ⟨⟨rfl, flat_nats _⟩, _, rfl, fun hb => ?_⟩
              change (!_) = false at hb
              rw [in_nats] at hb
              by_cases e : k ∈ ws.map (·.2)
              · exact e
              · rw [decide_eq_false e] at hb
                cases hb
          · show wpE _ _ _ [some (.d (graphD ks lg)), some (.d (logD lg)), some (.d (.list (fs.map worldD))), s3, s4, some (.d (worldD ws)), s6, none, s8, some (.d (.int (k : Nat)))] _
            refine wpE_var 9 rfl ⟨out ++ [k], by rw [List.map_append]; rfl, fun e => absurd e (by simp)⟩
        · obtain ⟨out, rfl, ho⟩ := hv
          rw [List.length_map, List.take_length] at ho
          refine wpE_lst (wpA_nil ⟨Nat.zero_le _, r_eqLL (clA_nats out) (clA_nil _) ⟨_, rfl, fun hb => ?_⟩⟩)
          rw [eqvA_nil] at hb
          refine ho ?_
          cases out with
          | nil => rfl
          | cons _ _ => cases hb
      · show wpE _ _ _ [some (.d (graphD ks lg)), some (.d (logD lg)), some (.d (.list (fs.map worldD))), s3, s4, some (.d (worldD ws)), s6, none, s8, none] _
        refine wpE_var 5 rfl ⟨out ++ [ws], by rw [List.map_append]; rfl, by rw [List.length_append]; exact Nat.succ_le_succ ho, fun v hv => ?_⟩
        rcases List.mem_append.mp hv with hv | hv
        · exact hg v hv
        · rw [List.mem_singleton.mp hv]
          exact ⟨hpre, hT rfl⟩
    · obtain ⟨out, rfl, ho, hg⟩ := hv
      rw [List.length_map] at ho
      exact ⟨out, rfl, Nat.le_trans ho hfl6, hg⟩
end
end K31

set_option Elab.async false
set_option linter.all false
set_option maxRecDepth 100000
set_option maxHeartbeats 1000000
namespace K31
open PySem PySem.Spec L2 DL
/-! ### sorted lists stay beside one another -/
inductive R2 (c : Int) : List Int → List Int → Prop
  | nil : R2 c [] []
  | cons {a b : Int} {as bs : List Int} : a + c ≤ b → R2 c as bs → R2 c (a :: as) (b :: bs)
def insI (a : Int) : List Int → List Int
  | [] => [a]
  | b :: r => if a ≤ b then a :: b :: r else b :: insI a r
def srtI : List Int → List Int
  | [] => []
  | a :: r => insI a (srtI r)
abbrev Up (l : List Int) : Prop := l.Pairwise (· ≤ ·)
theorem insI_mem {a x : Int} : ∀ {l : List Int}, x ∈ insI a l ↔ x = a ∨ x ∈ l
  | [] => by simp [insI]
  | b :: r => by
    unfold insI
    split
    · simp
    · rw [List.mem_cons, insI_mem (l := r), List.mem_cons]
      exact ⟨fun h => h.elim (fun h => .inr (.inl h)) fun h => h.elim .inl fun h => .inr (.inr h), fun h => h.elim (fun h => .inr (.inl h)) fun h => h.elim .inl fun h => .inr (.inr h)⟩
theorem insI_perm (a : Int) : ∀ l : List Int, (insI a l).Perm (a :: l)
  | [] => .refl _
  | b :: r => by
    unfold insI
    split
    · exact .refl _
    · exact ((insI_perm a r).cons b).trans (.swap a b r)
theorem insI_up (a : Int) : ∀ {l : List Int}, Up l → Up (insI a l)
  | [], _ => List.pairwise_singleton _ _
  | b :: r, h => by
    unfold insI
    obtain ⟨h1, h2⟩ := List.pairwise_cons.mp h
    split
    · rename_i hab
      refine List.pairwise_cons.mpr ⟨fun x hx => ?_, h⟩
      rcases List.mem_cons.mp hx with rfl | hx
      · exact hab
      · exact Int.le_trans hab (h1 x hx)
    · rename_i hab
      refine List.pairwise_cons.mpr ⟨fun x hx => ?_, insI_up a h2⟩
      rcases insI_mem.mp hx with rfl | hx
      · omega
      · exact h1 x hx
theorem srtI_perm : ∀ l : List Int, (srtI l).Perm l
  | [] => .refl _
  | a :: r => (insI_perm a _).trans ((srtI_perm r).cons a)
theorem srtI_up : ∀ l : List Int, Up (srtI l)
  | [] => .nil
  | a :: r => insI_up a (srtI_up r)
theorem insI_head {x : Int} {l : List Int} (h : Up (x :: l)) : insI x l = x :: l := by
  cases l with
  | nil => rfl
  | cons b r =>
    unfold insI
    rw [if_pos ((List.pairwise_cons.mp h).1 b List.mem_cons_self)]
theorem R2.ins {c : Int} : ∀ {as bs : List Int}, R2 c as bs → Up as → Up bs → ∀ {a b : Int}, a + c ≤ b → R2 c (insI a as) (insI b bs)
  | _, _, .nil, _, _, a, b, h => .cons h .nil
  | _, _, .cons (a := x) (b := y) (as := as) (bs := bs) hxy r, ha, hb, a, b, h => by
    have ha' := (List.pairwise_cons.mp ha).2
    have hb' := (List.pairwise_cons.mp hb).2
    unfold insI
    by_cases e1 : a ≤ x
    · rw [if_pos e1]
      by_cases e2 : b ≤ y
      · rw [if_pos e2]
        exact .cons h (.cons hxy r)
      · rw [if_neg e2]
        refine .cons (by omega) ?_
        have := r.ins ha' hb' (a := x) (b := b) (by omega)
        rwa [insI_head ha] at this
    · rw [if_neg e1]
      by_cases e2 : b ≤ y
      · rw [if_pos e2]
        refine .cons (by omega) ?_
        have := r.ins ha' hb' (a := a) (b := y) (by omega)
        rwa [insI_head hb] at this
      · rw [if_neg e2]
        exact .cons hxy (r.ins ha' hb' h)
theorem R2.srt {c : Int} : ∀ {as bs : List Int}, R2 c as bs → R2 c (srtI as) (srtI bs)
  | _, _, .nil => .nil
  | _, _, .cons h r => r.srt.ins (srtI_up _) (srtI_up _) h
theorem R2.get {c : Int} : ∀ {as bs : List Int} {i : Nat} {a b : Int}, R2 c as bs → as[i]? = some a → bs[i]? = some b → a + c ≤ b
  | _, _, 0, _, _, .cons h _, e1, e2 => by cases e1; cases e2; exact h
  | _, _, i + 1, _, _, .cons _ r, e1, e2 => r.get (i := i) e1 e2
theorem R2.of {α : Type} {c : Int} {f g : α → Int} : ∀ {ws : List α}, (∀ p ∈ ws, f p + c ≤ g p) → R2 c (ws.map f) (ws.map g)
  | [], _ => .nil
  | p :: r, h => .cons (h p List.mem_cons_self) (R2.of fun q hq => h q (List.mem_cons_of_mem _ hq))
theorem up_srt {l m : List Int} (hl : Up l) (h : l.Perm m) : l = srtI m :=
  (h.trans (srtI_perm m).symm).eq_of_pairwise (fun a b _ _ => Int.le_antisymm) hl (srtI_up m)
theorem R2.sorted {c : Int} {as bs as' bs' : List Int} (r : R2 c as bs) (h1 : as'.Perm as) (u1 : Up as') (h2 : bs'.Perm bs) (u2 : Up bs') : R2 c as' bs' := by
  rw [up_srt u1 h1, up_srt u2 h2]
  exact r.srt
theorem up_of {l : List (Int × Int)} (h : SrtO.Srtd SrtO.lexB l) : Up (l.map (·.1)) :=
  List.pairwise_map.mpr (h.imp fun {x y} e => by
    have := SrtO.lexB_no.mp e
    omega)
/-! ### worlds as sets -/
structure WP (ks : Kinds) (lg : Log) (ws : World') : Prop where
  fit : ∀ p ∈ ws, p ∈ gPairs ks lg
  n1 : (ws.map (·.1)).Nodup
  n2 : (ws.map (·.2)).Nodup
  m1 : ∀ k ∈ gMust ks lg 0, k ∈ ws.map (·.1)
  m2 : ∀ k ∈ gMust ks lg 1, k ∈ ws.map (·.2)
  len : ws.length ≤ 6
theorem gMust_lt {ks : Kinds} {lg : Log} {g k : Nat} (h : k ∈ gMust ks lg g) : k < (gl lg g).length := by
  unfold gMust gMus at h
  exact List.mem_range.mp (List.mem_filter.mp h).1
theorem GW.wp {ks : Kinds} {lg : Log} {ws : World'} (h : GW ks lg ws) (hle : lg.entries.length ≤ 6) : WP ks lg ws :=
  ⟨fun p hp => (h.pre.fit p hp).1, h.pre.asc.imp fun hab e => by omega, h.pre.n2, fun k hk => h.pre.m1 k hk (gMust_lt hk), h.m2, Nat.le_trans h.pre.len hle⟩
theorem WP.perm {ks : Kinds} {lg : Log} {ws vs : World'} (h : WP ks lg ws) (p : vs.Perm ws) : WP ks lg vs :=
  ⟨fun q hq => h.fit q (p.mem_iff.mp hq), (p.map _).nodup_iff.mpr h.n1, (p.map _).nodup_iff.mpr h.n2, fun k hk => (p.map _).mem_iff.mpr (h.m1 k hk), fun k hk => (p.map _).mem_iff.mpr (h.m2 k hk), by rw [p.length_eq]; exact h.len⟩
theorem WP.inr {ks : Kinds} {lg : Log} {ws : World'} (h : WP ks lg ws) : InR lg ws := fun p hp => fitsIJ_in (gPairs_mem.mp (h.fit p hp))
theorem ti_at {ls : List Line} {i : Nat} {l : Line} (h : ls[i]? = some l) : ti ls i = l.time := by
  unfold ti
  rw [List.getD_eq_getElem?_getD, List.getElem?_map, h]
  rfl
theorem fit_one {s l : Int} {lg : Log} (h : OneLog lg) {i j : Nat} (hi : i < lg.entries.length) (hj : j < lg.exits.length) : fitsIJ (carK s l) lg i j = true ↔ ti lg.entries i + s ≤ ti lg.exits j ∧ ti lg.exits j ≤ ti lg.entries i + l := by
  have e1 := List.getElem?_eq_getElem hi
  have e2 := List.getElem?_eq_getElem hj
  have o1 := h.en _ (List.getElem_mem hi)
  have o2 := h.ex _ (List.getElem_mem hj)
  generalize lg.entries[i] = a at e1 o1
  generalize lg.exits[j] = b at e2 o2
  rw [ti_at e1, ti_at e2]
  unfold fitsIJ
  rw [e1, e2]
  show fitsB (carK s l) a b = true ↔ _
  have kin : ∀ {o : Option Str}, o = none ∨ o = some carN → inK o carN = true := fun {o} ho => by
    rcases ho with rfl | rfl
    · rfl
    · exact decide_eq_true (rfl : carN = carN)
  unfold fitsB carK fitN
  rw [o1.pl, o2.pl]
  show (true && ((inK a.kind carN && inK b.kind carN) && (decide (s ≤ b.time - a.time) && decide (b.time - a.time ≤ l)) || false)) = true ↔ _
  rw [kin o1.kd, kin o2.kd]
  simp only [Bool.and_true, Bool.true_and, Bool.or_false, Bool.and_eq_true, decide_eq_true_eq]
  omega
def natP (q : Int × Int) : Nat × Nat := (q.1.toNat, q.2.toNat)
theorem ord_right {s l : Int} {lg : Log} {ws : World'} (ho : OneLog lg) (h : WP (carK s l) lg ws) {zs : List (Int × Int)} (hz : OrdPost lg ws zs) :
    ∃ vs : World', zs = vs.map pr ∧ RW (carK s l) lg vs ∧ overt lg vs = false ∧ (vs.map (·.1)).Perm (ws.map (·.1)) ∧ (vs.map (·.2)).Perm (ws.map (·.2)) := by
  obtain ⟨es, xs, pe, se, px, sx, pz, sz⟩ := hz
  have hin := h.inr
  have le : es.length = ws.length := by rw [pe.length_eq]; exact List.length_map _
  have lx : xs.length = ws.length := by rw [px.length_eq]; exact List.length_map _
  have hf : ∀ p ∈ ws, ti lg.entries p.1 + s ≤ ti lg.exits p.2 ∧ ti lg.exits p.2 ≤ ti lg.entries p.1 + l := fun p hp =>
    (fit_one ho (hin p hp).1 (hin p hp).2).mp (gPairs_mem.mp (h.fit p hp))
  have m1 : (eL lg ws).map (·.1) = ws.map fun p => ti lg.entries p.1 := by unfold eL; rw [List.map_map]; rfl
  have m2 : (xL lg ws).map (·.1) = ws.map fun p => ti lg.exits p.2 := by unfold xL; rw [List.map_map]; rfl
  have P1 : (es.map (·.1)).Perm (ws.map fun p => ti lg.entries p.1) := by rw [← m1]; exact pe.map _
  have P2 : (xs.map (·.1)).Perm (ws.map fun p => ti lg.exits p.2) := by rw [← m2]; exact px.map _
  have D1 : R2 s (es.map (·.1)) (xs.map (·.1)) := (R2.of fun p hp => (hf p hp).1).sorted P1 (up_of se) P2 (up_of sx)
  have D2 : R2 (-l) (xs.map (·.1)) (es.map (·.1)) := (R2.of fun p hp => (by have := (hf p hp).2; omega)).sorted P2 (up_of sx) P1 (up_of se)
  have ex_es : ∀ e ∈ es, ∃ p ∈ ws, e = (ti lg.entries p.1, (p.1 : Int)) := fun e he => by
    obtain ⟨p, hp, e2⟩ := List.mem_map.mp (pe.mem_iff.mp he)
    exact ⟨p, hp, e2.symm⟩
  have ex_xs : ∀ e ∈ xs, ∃ p ∈ ws, e = (ti lg.exits p.2, (p.2 : Int)) := fun e he => by
    obtain ⟨p, hp, e2⟩ := List.mem_map.mp (px.mem_iff.mp he)
    exact ⟨p, hp, e2.symm⟩
  -- the pairs as numbers
  have key : ∀ q ∈ zs, ∃ (i : Nat) (a b : Nat), q = ((a : Int), (b : Int)) ∧ es[i]? = some (ti lg.entries a, (a : Int)) ∧ xs[i]? = some (ti lg.exits b, (b : Int)) ∧ a < lg.entries.length ∧ b < lg.exits.length := fun q hq => by
    obtain ⟨w, hw, rfl⟩ := List.mem_map.mp (pz.mem_iff.mp hq)
    obtain ⟨i, hi⟩ := List.mem_iff_getElem?.mp hw
    obtain ⟨e, x⟩ := w
    rw [List.getElem?_zip_eq_some] at hi
    obtain ⟨p, hp, rfl⟩ := ex_es e (List.mem_of_getElem? hi.1)
    obtain ⟨r, hr, rfl⟩ := ex_xs x (List.mem_of_getElem? hi.2)
    exact ⟨i, p.1, r.2, rfl, hi.1, hi.2, (hin p hp).1, (hin r hr).2⟩
  have hzv : zs = (zs.map natP).map pr := by
    rw [List.map_map]
    refine (List.map_id zs).symm.trans (List.map_congr_left fun q hq => ?_)
    obtain ⟨i, a, b, rfl, _⟩ := key q hq
    rfl
  have keyN : ∀ v ∈ zs.map natP, ∃ i, es[i]? = some (ti lg.entries v.1, (v.1 : Int)) ∧ xs[i]? = some (ti lg.exits v.2, (v.2 : Int)) ∧ v.1 < lg.entries.length ∧ v.2 < lg.exits.length := fun v hv => by
    obtain ⟨q, hq, rfl⟩ := List.mem_map.mp hv
    obtain ⟨i, a, b, rfl, h1, h2, h3, h4⟩ := key q hq
    exact ⟨i, h1, h2, h3, h4⟩
  have toN : ∀ (xs : List (Int × Int)), (xs.map natP).map (·.1) = (xs.map (·.1)).map Int.toNat ∧ (xs.map natP).map (·.2) = (xs.map (·.2)).map Int.toNat := fun xs => by
    rw [List.map_map, List.map_map, List.map_map, List.map_map]
    exact ⟨rfl, rfl⟩
  have z1 : (((es.zip xs).map fun p => (p.1.2, p.2.2)).map (·.1)) = es.map (·.2) := by
    rw [List.map_map]
    have : ((·.1) ∘ fun p : (Int × Int) × (Int × Int) => (p.1.2, p.2.2)) = (·.2) ∘ (·.1) := rfl
    rw [this, ← List.map_map, List.map_fst_zip (by omega)]
  have z2 : (((es.zip xs).map fun p => (p.1.2, p.2.2)).map (·.2)) = xs.map (·.2) := by
    rw [List.map_map]
    have : ((·.2) ∘ fun p : (Int × Int) × (Int × Int) => (p.1.2, p.2.2)) = (·.2) ∘ (·.2) := rfl
    rw [this, ← List.map_map, List.map_snd_zip (by omega)]
  have Q1 : ((zs.map natP).map (·.1)).Perm (ws.map (·.1)) := by
    rw [(toN zs).1]
    have a1 : (zs.map (·.1)).Perm (es.map (·.2)) := by rw [← z1]; exact pz.map _
    have a2 : (es.map (·.2)).Perm (ws.map fun p => (p.1 : Int)) := by
      have : (eL lg ws).map (·.2) = ws.map fun p => (p.1 : Int) := by unfold eL; rw [List.map_map]; rfl
      rw [← this]
      exact pe.map _
    have a3 : (ws.map fun p => (p.1 : Int)).map Int.toNat = ws.map (·.1) := by rw [List.map_map]; rfl
    rw [← a3]
    exact (a1.trans a2).map _
  have Q2 : ((zs.map natP).map (·.2)).Perm (ws.map (·.2)) := by
    rw [(toN zs).2]
    have a1 : (zs.map (·.2)).Perm (xs.map (·.2)) := by rw [← z2]; exact pz.map _
    have a2 : (xs.map (·.2)).Perm (ws.map fun p => (p.2 : Int)) := by
      have : (xL lg ws).map (·.2) = ws.map fun p => (p.2 : Int) := by unfold xL; rw [List.map_map]; rfl
      rw [← this]
      exact px.map _
    have a3 : (ws.map fun p => (p.2 : Int)).map Int.toNat = ws.map (·.2) := by rw [List.map_map]; rfl
    rw [← a3]
    exact (a1.trans a2).map _
  have lz : (zs.map natP).length = ws.length := by
    have := Q1.length_eq
    rwa [List.length_map (f := fun p : Nat × Nat => p.1), List.length_map (f := fun p : Nat × Nat => p.1)] at this
  refine ⟨zs.map natP, hzv, ⟨fun v hv => ?_, by rw [← hzv]; exact sz, Q1.nodup_iff.mpr h.n1, Q2.nodup_iff.mpr h.n2, fun k hk => Q1.mem_iff.mpr (h.m1 k hk), fun k hk => Q2.mem_iff.mpr (h.m2 k hk), by rw [lz]; exact h.len, ho.ln, ho.lx⟩, ?_, Q1, Q2⟩
  · obtain ⟨i, h1, h2, h3, h4⟩ := keyN v hv
    refine gPairs_mem.mpr ((fit_one ho h3 h4).mpr ⟨?_, ?_⟩)
    · exact D1.get (i := i) (by rw [List.getElem?_map, h1]; rfl) (by rw [List.getElem?_map, h2]; rfl)
    · have := D2.get (i := i) (a := ti lg.exits v.2) (b := ti lg.entries v.1) (by rw [List.getElem?_map, h2]; rfl) (by rw [List.getElem?_map, h1]; rfl)
      omega
  · cases e : overt lg (zs.map natP) with
    | false => rfl
    | true =>
      obtain ⟨p, hp, e⟩ := List.any_eq_true.mp e
      obtain ⟨q, hq, e⟩ := List.any_eq_true.mp e
      unfold over1 at e
      obtain ⟨e1, e2⟩ := Bool.and_eq_true_iff.mp e
      have e1 := of_decide_eq_true e1
      have e2 := of_decide_eq_true e2
      obtain ⟨i, a1, a2, _, _⟩ := keyN p hp
      obtain ⟨j, b1, b2, _, _⟩ := keyN q hq
      have mono : ∀ {L : List (Int × Int)}, SrtO.Srtd SrtO.lexB L → ∀ {i j : Nat} {x y : Int × Int}, i < j → L[i]? = some x → L[j]? = some y → x.1 ≤ y.1 := fun {L} hL {i j x y} hij hx hy => by
        obtain ⟨hi, rfl⟩ := List.getElem?_eq_some_iff.mp hx
        obtain ⟨hj, rfl⟩ := List.getElem?_eq_some_iff.mp hy
        have := SrtO.lexB_no.mp (List.pairwise_iff_getElem.mp hL i j hi hj hij)
        omega
      rcases Nat.lt_trichotomy i j with hij | hij | hij
      · have := mono sx hij a2 b2
        change ti lg.exits p.2 ≤ ti lg.exits q.2 at this
        omega
      · subst hij
        rw [a1] at b1
        have := (Prod.mk.inj (Option.some.inj b1)).1
        omega
      · have := mono se hij b1 a1
        change ti lg.entries q.1 ≤ ti lg.entries p.1 at this
        omega
/-- overtaking does not depend on the order -/
theorem overt_perm {lg : Log} {vs ws : World'} (h : vs.Perm ws) : overt lg vs = overt lg ws := by
  have e : ∀ {a b : World'}, a.Perm b → overt lg a = true → overt lg b = true := fun {a b} h e => by
    obtain ⟨p, hp, e⟩ := List.any_eq_true.mp e
    obtain ⟨q, hq, e⟩ := List.any_eq_true.mp e
    exact List.any_eq_true.mpr ⟨p, h.mem_iff.mp hp, List.any_eq_true.mpr ⟨q, h.mem_iff.mp hq, e⟩⟩
  cases e1 : overt lg vs with
  | true => exact (e h e1).symm
  | false =>
    cases e2 : overt lg ws with
    | false => rfl
    | true => rw [e h.symm e2] at e1; cases e1
/-- sorted pairs are pairs of numbers -/
theorem perm_pr {qs : List (Int × Int)} {ws : World'} (h : qs.Perm (ws.map pr)) : ∃ vs : World', qs = vs.map pr ∧ vs.Perm ws := by
  have e : qs = (qs.map natP).map pr := by
    rw [List.map_map]
    refine (List.map_id qs).symm.trans (List.map_congr_left fun q hq => ?_)
    obtain ⟨p, _, rfl⟩ := List.mem_map.mp (h.mem_iff.mp hq)
    rfl
  refine ⟨qs.map natP, e, ?_⟩
  have := h.map natP
  rwa [List.map_map, show natP ∘ pr = id from rfl, List.map_id] at this
end K31

set_option Elab.async false
set_option linter.all false
set_option maxRecDepth 100000
set_option maxHeartbeats 2000000
/-! DL39: defs that write repr: their promise holds where no repr is under way. -/
namespace DL
open PySem PySem.Spec L2 PyProof.Rows
/-- a promise of a def where no repr is under way -/
structure FnG (Pg : Program) (w : World) (K : PySem.W.Frag) (mg : Str → Option Value) (base : Heap) (k : Nat) (fa : Addr) (fd : FuncData) (ps : List Str) (sp : Sp) : Prop where
  many : ∀ vs H Q E, sp vs H Q E → vs.length = ps.length
  goes : ∀ (A : Around) (outer : List Env) (s : Shared) (H : Hp) (args : Args) (us : List Value) (vs : List V) (Q : VK) (E : XK), Room k A → A.guards = some [] → H sysModules = none → s.heap.get? sysModules ≠ none →
    Env0 Pg w K mg base A outer s H → BindsTo s fd args (ps.zip us) → Vals vs us → sp vs H Q E → codeAny (model Pg w) A (.call (.ref fa) args) (CR CX0 outer Pg w H s Q E) s
theorem fnG_of {Pg : Program} {w : World} {K : PySem.W.Frag} {mg : Str → Option Value} {base : Heap} {k : Nat} {fa : Addr} {nm ql : Str} {pa : Arguments} {bd : List Stmt} {sc : Scope} {d1 d2 d3 d4 cd d5 d6 : Value} {a1 a2 : Option Addr}
    {osl : Array (Option Value)} {N ps : List Str} {sp : Sp} (lk : K.lookup fa = some ⟨d6, a2, .func (PySem.W.fnOf nm ql pa bd sc d1 d2 d3 d4 a1 cd d5), osl⟩) (hcd : PySem.W.codeIn K cd ql = true) (S : FnScope N ps sc) (len : ∀ vs H Q E, sp vs H Q E → vs.length = ps.length)
    (hb : ∀ (A : Around) (outer : List Env) (s : Shared) (H : Hp) (vs : List V) (Q : VK) (E : XK), Room k (A.deeper (envOfC ql sc s.heap.objs.size fa cd)) → A.guards = some [] → H sysModules = none → s.heap.get? sysModules ≠ none → sp vs H Q E →
      ∃ t, PSs (cxOf CX0 Pg w K mg base N ql sc fa cd A outer s H E) bd t ∧ t { nx := fun _ H' => Q .non H', rt := Q } (start N vs) H) :
    FnG Pg w K mg base (k + 1) fa (PySem.W.fnOf nm ql pa bd sc d1 d2 d3 d4 a1 cd d5) ps sp := by
  refine ⟨len, fun A outer s H args us vs Q E hr hg hm hs e0 hbd r hsp => ?_⟩
  have ln := len _ _ _ _ hsp
  have kin : K.In s.heap := e0.mod.kin.keeps fun b ob e => (e0.bs b ob e).1
  have nolim : s.heap.NoLimit := e0.mod.nolimit.keeps fun b ob e => (e0.bs b ob e).1
  have kinds : ∀ y ∈ ps.zip us, sc.names.lookup y.1 = some .local ∨ (sc.names.lookup y.1 = some .cell ∧ ((cellsFrom (s.heap.objs.size + 1) sc.names []).lookup y.1).isSome = true) := by
    rintro ⟨n, v⟩ hy
    exact (S.par n (List.of_mem_zip hy).1).imp id fun q => ⟨q, PySem.W.cellsFrom_some _ _ _ (.inl q)⟩
  refine codeAny_call_function hr.depth (kin _ _ lk) rfl S.co S.gen rfl (PySem.W.codeRec_of kin hcd) (hbd _ _ _ _ ?_)
  refine wpAny_newFunctionEnv_cells S.kind kinds fun en he s1 x => ?_
  subst he
  refine ⟨nolim.keeps x.toInCall.keep, codeAny_func ?_⟩
  obtain ⟨t, ht, hq⟩ := hb A outer s H vs Q E (hr.deeper _) hg hm hs hsp
  have I : Inv (cxOf CX0 Pg w K mg base N ql sc fa cd A outer s H E) [] (start N vs) H s1 := inv_start S hr.hd e0 ln r x
  refine wpAny_mono (ht.run [] s1 (start N vs) H _ I hq) (fun fl z hz => ?_) fun e z hz => hz
  have out : ∀ {σ' : L2.St} {H' : Hp} {v : V} {u : Value}, Inv (cxOf CX0 Pg w K mg base N ql sc fa cd A outer s H E) [] σ' H' z → RelV v u → Q v H' → CE outer Pg w H s Q u z := by
    intro σ' H' v u J rv q
    exact ⟨v, H', J.os, J.bare, J.base, J.hok, rv, q⟩
  cases fl with
  | ret u => obtain ⟨v, σ', H', J, rv, q⟩ := hz; exact out J rv q
  | next => obtain ⟨σ', H', J, q⟩ := hz; exact out (v := V.non) (u := Value.none) J rfl q
  | brk => obtain ⟨_, _, _, q⟩ := hz; cases q
  | cont => obtain ⟨_, _, _, q⟩ := hz; cases q
/-- a frame in which no repr is under way -/
structure Qt (X : Cx) : Prop where
  gd : X.A.guards = some []
  h0 : X.H_0 sysModules = none
  h1 : X.s_0.heap.get? sysModules ≠ none
  ex : X.ex = []
section
variable {X : Cx} {x : Str} {p pos : Pos} {e : Expr} {es : List Expr} {t : TA} {fA : Addr} {fd : FuncData} {k : Nat} {ps : List Str} {sp : Sp} {E : XK}
theorem Qt.now (q : Qt X) {pins : List (Addr × Obj)} {σ : L2.St} {H : Hp} {s : Shared} (I : Inv X pins σ H s) : H sysModules = none ∧ s.heap.get? sysModules ≠ none := by
  cases e : X.s_0.heap.get? sysModules with
  | none => exact absurd e q.h1
  | some o =>
    refine ⟨I.base.free _ _ e q.h0 (by rw [q.ex]; simp), fun z => ?_⟩
    obtain ⟨o', e'⟩ := I.base.there _ _ e (by rw [q.ex]; simp)
    rw [z] at e'
    cases e'
theorem pe_callG (F : FnG X.prog X.w X.K X.mg X.base k fA fd ps sp) (q : Qt X) (hr : Room k X.A) (hg : Gl X x) (hm : X.mg x = some (.ref fA)) (hk : PySem.W.keepIn X.K (.ref fA) = true) (hb : Binds X.K fd ps []) (hx : Passes CX0 X E)
    (ha : PA X (e :: es) t) (hdb : (x == ("__debug__" : Str)) = false) (he : starEach (e :: es) X.env = (false, eval e X.env) :: starEach es X.env) (hpl : (backTo pos (starEach es X.env)).any (·.1) = false) :
    PE X (.Call (.Name x p) (e :: es) [] pos) (tCall sp [] E t) := by
  refine ⟨fun pins s σ H Q I h => wpAny_Call_Name_kw (ld_glob I hg hm ?_ hdb)⟩
  refine PySem.W.callWith_K (h₀ := X.base) I.ok.mod.kin hk (thn (ha.run pos pins s σ H _ I h) fun us s1 hq => ?_) he hpl
  obtain ⟨vs, H1, I1, r, h1⟩ := hq
  refine ⟨I1.kIn, ?_⟩
  rw [List.append_nil] at h1
  have hl : us.length = ps.length := r.length.symm.trans (F.many _ _ _ _ h1)
  obtain ⟨n1, n2⟩ := q.now I1
  have hbb := hb s1 us I1.kIn (by rw [List.append_nil]; exact hl)
  rw [List.append_nil] at hbb
  show wpAny _ _ (call (.ref fA) us) _ _ _
  refine wpAny_call (codeAny_mono (F.goes X.A X.stack s1 H1 ⟨us, []⟩ us vs Q E hr q.gd n1 n2 I1.env0 hbb r h1) fun r' s' hq => ?_)
  cases r' with
  | error e => exact hx pins σ H1 s1 e s' I1 hq
  | ok fl =>
    cases fl with
    | ret u => exact I1.after hq
    | next => cases hq
    | brk => cases hq
    | cont => cases hq
end
section
variable {X : Cx} {Tb : List Addr} {δ : Dl} {e : Expr} {es : List Expr} {pos p : Pos} {P : D → Prop} {x : Str} {fA : Addr} {fd : FuncData} {k n : Nat} {ps : List Str} {pre : List D → Prop} {post : List D → D → Prop}
theorem wpE_callG (F : FnG X.prog X.w X.K X.mg X.base k fA fd ps (spD Tb 0 n pre post)) (qt : Qt X) (hr : Room k X.A) (hm : X.mg x = some (.ref fA)) (hk : PySem.W.keepIn X.K (.ref fA) = true) (hb : Binds X.K fd ps [])
    (h : wpA X Tb (e :: es) δ fun ds => ds.length = n ∧ pre ds ∧ ∀ d, post ds d → P d) (hg : Gl X x := by rfl) (hdb : (x == ("__debug__" : Str)) = false := by decide) (he : starEach (e :: es) X.env = (false, eval e X.env) :: starEach es X.env := by rfl) (hpl : (backTo pos (starEach es X.env)).any (·.1) = false := by rfl) :
    wpE X Tb (.Call (.Name x p) (e :: es) [] pos) δ P := fun B O0 M Lk σ τ H I Q q =>
  sem_e (pe_callG F qt hr hg hm hk hb (pass0 (X := X)) pa_sem hdb he hpl) (h B O0 M Lk σ τ H I _ fun ps H1 J h1 => by
    obtain ⟨O, J⟩ := J
    obtain ⟨J0, r⟩ := J.popA
    obtain ⟨h1, h2, h3⟩ := h1
    refine ⟨O, [], ps.map (·.1), ps.map (·.2), List.append_nil _, rfl, (fun _ z => nomatch z), J.live, (fun _ z => nomatch z), J.tabs, r, h1, h2, fun v d H' g nf _ rv hp => ?_⟩
    exact q v d H' ⟨O, (J0.grow g (fun _ z => nomatch z) (fun _ z => nomatch z) (fun _ z => nomatch z) (fun _ z => nomatch z) nf).push rv⟩ (h3 d hp))
/-- f(feed, ..): the feed stands in slot j -/
theorem wpE_callFG {y : Str} {py : Pos} (j : Nat) (F : FnG X.prog X.w X.K X.mg X.base k fA fd ps (spD Tb 1 n pre post)) (qt : Qt X) (hr : Room k X.A) (hm : X.mg x = some (.ref fA)) (hk : PySem.W.keepIn X.K (.ref fA) = true) (hb : Binds X.K fd ps [])
    (hj : δ[j]? = some (some (.own .feed))) (h : wpA X Tb es δ fun ds => ds.length = n ∧ pre ds ∧ ∀ d, post ds d → P d) (hN : X.N[j]? = some y := by rfl)
    (hv : Vis X.env.scope y := by first | exact Or.inl rfl | exact Or.inr (Or.inl rfl) | exact Or.inr (Or.inr rfl)) (hd1 : (y == ("__debug__" : Str)) = false := by decide) (hd2 : (y == ("__classdict__" : Str)) = false := by decide)
    (hg : Gl X x := by rfl) (hdb : (x == ("__debug__" : Str)) = false := by decide) (he : starEach (.Name y py :: es) X.env = (false, eval (.Name y py) X.env) :: starEach es X.env := by rfl) (hpl : (backTo pos (starEach es X.env)).any (·.1) = false := by rfl) :
    wpE X Tb (.Call (.Name x p) (.Name y py :: es) [] pos) δ P := fun B O0 M Lk σ τ H I Q q => by
  refine sem_e (pe_callG F qt hr hg hm hk hb (pass0 (X := X)) (pa_cons (pe_var hN hv hd1 hd2) pa_sem he) hdb he hpl) ?_
  obtain ⟨O, I⟩ := I
  obtain ⟨v0, e0, f, rfl, hfO, hfB, _, hfd⟩ := I.slots j _ hj
  refine ⟨.ref f, e0, h B O0 M Lk σ τ H ⟨O, I⟩ _ fun ps H1 J h1 => ?_⟩
  obtain ⟨O1, J⟩ := J
  obtain ⟨J0, r⟩ := J.popA
  obtain ⟨h1, h2, h3⟩ := h1
  obtain ⟨v1, e1, f1, e2, hfO1, hfB1, _, hfd1⟩ := J0.slots j _ hj
  have ev : V.ref f = v1 := by
    have := e0.symm.trans e1
    exact Option.some.inj (Option.some.inj this)
  rw [e2] at ev
  obtain rfl : f = f1 := V.ref.inj ev
  refine ⟨O1, [f], ps.map (·.1), ps.map (·.2), ?_, rfl, (fun p hp => ?_), J.live, (fun g hg => ?_), J.tabs, r, h1, h2, fun v d H' g nf hf rv hp => ?_⟩
  · show (.ref f :: _) ++ ([] : List V) = .ref f :: ([] ++ _)
    rw [List.append_nil, List.nil_append]
  · rw [List.mem_singleton.mp hp]; exact hfO1
  · rw [List.mem_singleton.mp hg]; exact hfd1
  · refine q v d H' ⟨O1, (J0.grow g hf (fun g' hg' => ?_) (fun g' hg' i o ho hs => ?_) (fun g' hg' p hp z => ?_) nf (fun g' hg' i o e z => J0.inn.own i j o .feed e hj f (by rw [← List.mem_singleton.mp hg']; exact z) e0)).push rv⟩ (h3 d hp)
    · rw [List.mem_singleton.mp hg']; exact ⟨hfO1, hfB1, hfd1⟩
    · rw [List.mem_singleton.mp hg'] at hs
      obtain rfl := J0.sep i j o .feed f ho hj hs e0
      rw [hj] at ho
      cases ho
      rfl
    · rw [List.mem_singleton.mp hg'] at z
      exact (J0.hid p hp).2.2.2 j _ hj (by rw [z]; exact e0)
theorem call_reprQ (q : Qt X) (hu : X.A.units + 80 < cLine) : CallR X (.builtin "repr") rReprD := call_reprD q.gd hu q.h0 q.h1 q.ex
/-- a def that writes repr, by its body -/
theorem fn_okG {Pg : Program} {w : World} {K : PySem.W.Frag} {mg : Str → Option Value} {base : Heap} {x qual : Str} {st : Stmt} {f c : Addr} {fd : FuncData} {N ps : List Str} {k m n : Nat} {Tb : List Addr} {pre : List D → Prop} {post : List D → D → Prop} (F : FunC K x qual st f c fd) (S : FnScope N ps (defScope st)) (hm : m ≤ 1) (hn : ps.length = m + n)
    (hbody : ∀ (A : Around) (outer : List Env) (s : Shared) (H : Hp) (E : XK) (ds : List D), Room k (A.deeper (PyProof.Rows.envOfC qual (defScope st) s.heap.objs.size f (.ref c))) → Qt (cxOf CX0 Pg w K mg base N qual (defScope st) f (.ref c) A outer s H E).nox → ds.length = n → pre ds →
      wpSs (cxOf CX0 Pg w K mg base N qual (defScope st) f (.ref c) A outer s H E).nox Tb (defBody st) (startD m ds N) { nx := fun _ => post ds .none, rt := post ds }) : FnG Pg w K mg base (k + 1) f fd ps (spD Tb m n pre post) := by
  obtain ⟨oc, od, kV, doc, pm, an, ct, osl, rfl, lk, hcd⟩ := F.ex
  have hpl : ps.length ≤ N.length := by have := congrArg List.length S.pre; rw [List.length_take] at this; omega
  refine fnG_of lk hcd S (fun vs H Q E h => ?_) fun A outer s H vs Q E hr hg hms hs hsp => ?_
  · obtain ⟨O0, M, ws, ds, rfl, hMl, _, _, _, _, r, hd, _⟩ := h
    rw [List.length_append, List.length_map, r.length, hMl, hd, hn]
  · obtain ⟨O0, M, ws, ds, rfl, hMl, h1, h2, h3, h4, r, hd, hp, q⟩ := hsp
    have hb := hbody A outer s H E ds hr ⟨hg, hms, hs, rfl⟩ hd hp
    subst hMl
    have I := at_start (G := ⟨K, Tb⟩) (N := N) hm h1 h2 h3 h4 r (by omega)
    refine ⟨_, pss_sem.nox, semSs_le ⟨fun σ' H' h => ?_, fun v H' h => ?_, fun _ _ h => ?_, fun _ _ h => ?_⟩ (hb H O0 M ([], []) _ [] H I)⟩
    · obtain ⟨δ', J, h⟩ := h
      have Jr := (J.pushS (v := .non) (d := .none) fun _ => .non).ret
      exact q _ _ H' Jr.gr (fun a od u e => (Jr.nof a od u e).resolve_right (fun z => nomatch z)) Jr.feeds Jr.rp h
    · obtain ⟨d, J, h⟩ := h
      exact q _ _ H' J.gr (fun a od u e => (J.nof a od u e).resolve_right (fun z => nomatch z)) J.feeds J.rp h
    · obtain ⟨_, _, h⟩ := h
      exact h
    · obtain ⟨_, _, h⟩ := h
      exact h
theorem r_reprT {p n : Nat} {ds : List D} {P : D → Prop} (h : Sm p n (.tuple ds)) (hp : p ≤ 64) (hn : n ≤ 2 ^ 20) (q : P (.str (PyData.shown (.tuple ds)))) : reprR [.tuple ds] P := 
  ⟨⟨h.sh, Nat.le_trans h.dp hp, PyData.shown_fits (B := 13) (by decide) (by decide) h.lv (Nat.le_trans h.wt hn)⟩, q⟩
end
end DL

set_option Elab.async false
set_option linter.all false
set_option maxRecDepth 100000
set_option maxHeartbeats 1000000
namespace DL
open PySem PySem.Spec L2
section
variable {X : Cx} {Tb : List Addr}
/-- sorted(xs), ints -/
def sortIR : List D → (D → Prop) → Prop := fun ds P => ∃ ns : List Int, ds = [.list (ns.map .int)] ∧ ∀ ms : List Int, ms.Perm ns → ms.Pairwise (· ≤ ·) → P (.list (ms.map .int))
theorem rp_ints {H : Hp} : ∀ ns : List Int, RpA H (ns.map V.int) (ns.map PyData.int)
  | [] => .nil
  | n :: r => .cons (.int n) (rp_ints r)
theorem ok_sortI : OkC X Tb (rSortedI X.K) sortIR := by
  intro B O0 M Lk O δ σ τ H vs ds P I r h Q q
  obtain ⟨ns, rfl, h⟩ := h
  obtain ⟨v, rfl, rv⟩ := r.one'
  obtain ⟨a, xs, rfl, ha, rx⟩ := rv.list'
  rw [ints_of rx] at ha
  exact ⟨a, ns, rfl, SqL.of (vis_some ha).2, fun ms p hp hs hn => q _ _ _ ⟨O, I.newLst (rp_ints ms) hn⟩ (h ms hp hs)⟩
end
theorem smA_all {p n : Nat} : ∀ {ds : List D}, (∀ d ∈ ds, Sm p n d) → SmA p (ds.length * (n + 1)) ds
  | [], _ => by rw [List.length_nil, Nat.zero_mul]; exact smA_nil p
  | d :: r, h => by
    have := smA_cons (h d List.mem_cons_self) (smA_all (ds := r) fun x hx => h x (List.mem_cons_of_mem _ hx))
    rw [List.length_cons, Nat.succ_mul, Nat.add_comm (r.length * (n + 1))]
    exact this
theorem SmA.mono' {p n m : Nat} {ds : List D} (h : SmA p n ds) (k : n ≤ m) : SmA p m ds := ⟨h.sh, h.lv, h.dp, Nat.le_trans h.wt k⟩
end DL
namespace K31
open PySem PySem.Spec L2 DL
theorem sm_line {l : Line} (h : OneL l) : Sm 2 46 (lineD l) := by
  have hk : Sm 1 3 (oS l.kind) := by
    rcases h.kd with e | e
    · rw [e]; exact (sm_none 1).mono (by decide)
    · rw [e]; exact sm_str 1 (ok8_text (by decide +kernel) (by decide +kernel))
  have hp : Sm 1 0 (oS l.plate) := by rw [h.pl]; exact sm_none 1
  have h0 := h.t0
  have h1 := h.t1
  exact sm_tuple (smA_cons (sm_int 1 (by omega)) (smA_cons hk (smA_cons hp (smA_nil 1))))
theorem sm_floor {f : Option Int} (h : okF f) : Sm 3 40 (floorD f) := by
  cases f with
  | none => exact (sm_str 3 (n := 6) (ok8_text (by decide +kernel) (by decide +kernel))).mono (by decide)
  | some x => exact sm_int 3 (by have := h x rfl; omega)
theorem sm_lines {ls : List Line} (h : ∀ l ∈ ls, OneL l) (hl : ls.length ≤ 6) : Sm 3 300 (.list (ls.map lineD)) := by
  refine sm_list ((smA_all (n := 46) fun d hd => ?_).mono' ?_)
  · obtain ⟨l, hl, rfl⟩ := List.mem_map.mp hd
    exact sm_line (h l hl)
  · rw [List.length_map]
    omega
theorem sm_log {lg : Log} (h : OneLog lg) : Sm 4 1000 (logD lg) :=
  (sm_tuple (smA_cons (sm_lines h.en h.ln) (smA_cons (sm_lines h.ex h.lx) (smA_cons (sm_floor h.ef) (smA_cons (sm_floor h.xf) (smA_nil 3)))))).mono (by decide)
theorem eqv_intD (a b : Int) : PyData.eqv (.int a) (.int b) = decide (a = b) := by
  simp only [PyData.eqv]
  congr 1
theorem carK_nd (s l : Int) : ((carK s l).map (·.1)).Nodup := List.nodup_cons.mpr ⟨(fun z => nomatch z), List.nodup_nil⟩
theorem clA_world (ws : World') : ClA 40 (ws.map fun p => pairD (pr p)) := clA_map fun p _ => cl_tuple (p := 39) (clA_cons (cl_int _ _) (clA_cons (cl_int _ _) (clA_nil _)))
theorem eqv_world (vs ws : World') (h : vs = ws) : PyData.eqv (worldD vs) (worldD ws) = true := by
  subst h
  rw [worldD_eq]
  show PyData.eqvAll _ _ = _
  rw [eqv_map eqv_pairD, decide_eq_true rfl]
section
variable {P : Program} {w : World} {K : PySem.W.Frag} {mg : Str → Option Value} {base : Heap} {Tb : List Addr}
abbrev GOrd (P : Program) (w : World) (K : PySem.W.Frag) (mg : Str → Option Value) (base : Heap) (Tb : List Addr) (f : Addr) (fd : FuncData) : Prop := ∀ (lg : Log) (ws : World'), InR lg ws → ws.length < 1000 →
  FnOk P w K mg base CX0 1 f fd ["log", "world"] (spN Tb 0 2 (fun ds => ds = [logD lg, worldD ws]) fun _ rs => ∃ zs, OrdPost lg ws zs ∧ rs = zs.map pairD)
abbrev nRi : List Str := ["feed", "kinds", "log", "graph", "worlds", "before", "turn", "world", "given", "found", "gate", "one", "again"]
theorem scRi : FnScope nRi ["feed", "kinds", "log"] (defScope sRight) := ⟨rfl, rfl, rfl, by decide +kernel, rfl, by decide +kernel, by decide +kernel⟩
abbrev GRight (P : Program) (w : World) (K : PySem.W.Frag) (mg : Str → Option Value) (base : Heap) (Tb : List Addr) (f : Addr) (fd : FuncData) : Prop := ∀ (s l : Int) (lg : Log), OneLog lg → FnG P w K mg base 3 f fd ["feed", "kinds", "log"] (spD Tb 1 2 (fun ds => ds = [kindsD (carK s l), logD lg]) fun _ d => d = .bool true)
theorem ok_right {f c : Addr} {fd : FuncData} (F : FunC K "_law_is_right" "_law_is_right" sRight f c fd) (m_range : mg "range" = none) (m_len : mg "len" = none) (m_min : mg "min" = none) (m_sorted : mg "sorted" = none) (m_list : mg "list" = none) (m_repr : mg "repr" = none)
    {fP : Addr} {fdP : FuncData} (GP : GPick P w K mg base Tb fP fdP) (gP : mg "_law_pick" = some (.ref fP)) (kP : PySem.W.keepIn K (.ref fP) = true) (bP : Binds K fdP ["feed", "choices"] [])
    {fG : Addr} {fdG : FuncData} (GG : GGraph P w K mg base Tb fG fdG) (gG : mg "_law_graph" = some (.ref fG)) (kG : PySem.W.keepIn K (.ref fG) = true) (bG : Binds K fdG ["kinds", "log"] [])
    {fW : Addr} {fdW : FuncData} (GWs : GWorlds P w K mg base Tb fW fdW) (gW : mg "_law_worlds" = some (.ref fW)) (kW : PySem.W.keepIn K (.ref fW) = true) (bW : Binds K fdW ["graph", "log"] [])
    {fI : Addr} {fdI : FuncData} (GI : GIsW P w K mg base Tb fI fdI) (gI : mg "_law_is_world" = some (.ref fI)) (kI : PySem.W.keepIn K (.ref fI) = true) (bI : Binds K fdI ["graph", "value"] [])
    {fV : Addr} {fdV : FuncData} (GV : GOver P w K mg base Tb fV fdV) (gV : mg "_law_overtakes" = some (.ref fV)) (kV : PySem.W.keepIn K (.ref fV) = true) (bV : Binds K fdV ["log", "world"] [])
    {fO : Addr} {fdO : FuncData} (GO : GOrd P w K mg base Tb fO fdO) (gO : mg "ordered_world" = some (.ref fO)) (kO : PySem.W.keepIn K (.ref fO) = true) (bO : Binds K fdO ["log", "world"] [])
    {fB : Addr} {fdB : FuncData} (GB : GIsOrd P w K mg base Tb fB fdB) (gB : mg "is_ordered" = some (.ref fB)) (kB : PySem.W.keepIn K (.ref fB) = true) (bB : Binds K fdB ["log", "world"] []) :
    GRight P w K mg base Tb f fd := by
  intro s l lg ho
  refine fn_okG F scRi (by decide) rfl fun A outer st H E ds hr qt hl hp => ?_
  subst hp
  have hr1 : Room 1 (A.deeper (PyProof.Rows.envOfC "_law_is_right" (defScope sRight) st.heap.objs.size f (.ref c))) := hr.mono (by decide)
  have hu80 : (A.deeper (PyProof.Rows.envOfC "_law_is_right" (defScope sRight) st.heap.objs.size f (.ref c))).units + 80 < cLine := by have := hr.un; omega
  have hu65 : (A.deeper (PyProof.Rows.envOfC "_law_is_right" (defScope sRight) st.heap.objs.size f (.ref c))).units + 65 < cLine := by have := hr.un; omega
  have hS := sm_log ho
  obtain ⟨ks, hks⟩ : ∃ ks : Kinds, ks = carK s l := ⟨_, rfl⟩
  obtain ⟨tx, htx⟩ : ∃ tx : Str, tx = PyData.shown (logD lg) := ⟨_, rfl⟩
  show wpSs _ _ _ [some (.own .feed), some (.d (kindsD (carK s l))), some (.d (logD lg)), none, none, none, none, none, none, none, none, none, none] _
  rw [← hks]
  refine wpSs_cons (wpS_set 3 (wpE_call (GG ks lg (by rw [hks]; exact carK_nd s l) ho.ln ho.lx) hr gG kG bG (wpA_cons (wpE_var 1 rfl (wpA_cons (wpE_var 2 rfl (wpA_nil ⟨rfl, rfl, fun d hd => ?_⟩)))))) scRi.nd)
  subst hd
  show wpSs _ _ _ [some (.own .feed), some (.d (kindsD ks)), some (.d (logD lg)), some (.d (graphD ks lg)), none, none, none, none, none, none, none, none, none] _
  refine wpSs_cons (wpS_set 4 (wpE_call (GWs ks lg ho.ln ho.lx) hr1 gW kW bW (wpA_cons (wpE_var 3 rfl (wpA_cons (wpE_var 2 rfl (wpA_nil ⟨rfl, rfl, fun d hd => ?_⟩)))))) scRi.nd)
  obtain ⟨wss, rfl, hwl, hws⟩ := hd
  show wpSs _ _ _ [some (.own .feed), some (.d (kindsD ks)), some (.d (logD lg)), some (.d (graphD ks lg)), some (.d (.list (wss.map worldD))), none, none, none, none, none, none, none, none] _
  refine wpSs_cons (wpS_set 5 (wpE_callB (call_reprQ qt hu80) ok_repr m_repr boot_repr' (wpA_cons (wpE_var 2 rfl (wpA_nil (r_reprT hS (by decide) (by decide) ?_))))) scRi.nd)
  show wpSs _ _ _ [some (.own .feed), some (.d (kindsD ks)), some (.d (logD lg)), some (.d (graphD ks lg)), some (.d (.list (wss.map worldD))), some (.d (.str (PyData.shown (logD lg)))), none, none, none, none, none, none, none] _
  rw [← htx]
  refine wpSs_cons (wpS_for (wpI_range m_range (wpA_cons (wpE_callB (call_min2 rfl) ok_min m_min PyProof.Rows.boot_min ?_))) PassesOwn.never rfl)
  refine wpA_cons (wpE_int (wpA_cons (wpE_callB call_lenX ok_len m_len boot_len' (wpA_cons (wpE_var 4 rfl ?_)))))
  refine wpA_nil ⟨(fun _ z => nomatch z), r_lenL (wpA_nil (r_min (wpA_nil ⟨_, rfl, ⟨by omega, by omega⟩, ?_⟩)))⟩
  refine ⟨fun i δ' => ∃ s6 s7 s8 s9 s10 s12, δ' = [some (.own .feed), some (.d (kindsD ks)), some (.d (logD lg)), some (.d (graphD ks lg)), some (.d (.list (wss.map worldD))), some (.d (.str tx)), s6, s7, s8, s9, s10, none, s12], ⟨_, _, _, _, _, _, rfl⟩, ?_, ?_⟩
  · rintro i d δ' hd ⟨s6, s7, s8, s9, s10, s12, rfl⟩
    obtain ⟨hi, rfl⟩ := rng_get hd
    have hne : wss ≠ [] := by
      intro e
      rw [e] at hi
      exact absurd (show i < 0 from hi) (Nat.not_lt_zero i)
    refine wpG_name 6 ?_ scRi.nd
    show wpSs _ _ _ [some (.own .feed), some (.d (kindsD ks)), some (.d (logD lg)), some (.d (graphD ks lg)), some (.d (.list (wss.map worldD))), some (.d (.str tx)), some (.d (.int (i : Nat))), s7, s8, s9, s10, none, s12] _
    refine wpSs_cons (wpS_set 7 (wpE_callB cr_sortedPO ok_sortP m_sorted boot_sorted2 (wpA_cons (wpE_pick 0 GP hr gP kP bP rfl (wpE_var 4 rfl ⟨_, rfl, ?_, ?_, fun z hz => ?_⟩)))) scRi.nd)
    · intro e
      exact hne (List.map_eq_nil_iff.mp e)
    · rw [List.length_map]
      omega
    obtain ⟨ws0, hws0, rfl⟩ := List.mem_map.mp hz
    refine wpA_nil ⟨ws0.map pr, by rw [worldD_eq], fun qs hqp hqs => ?_⟩
    obtain ⟨ws, rfl, hpm⟩ := perm_pr hqp
    rw [← worldD_eq]
    have hwp : WP ks lg ws := ((hws ws0 hws0).wp ho.ln).perm hpm
    have hin := hwp.inr
    have hwl6 := hwp.len
    have hl1 : ws.length < 1000 := by omega
    show wpSs _ _ _ [some (.own .feed), some (.d (kindsD ks)), some (.d (logD lg)), some (.d (graphD ks lg)), some (.d (.list (wss.map worldD))), some (.d (.str tx)), some (.d (.int (i : Nat))), some (.d (worldD ws)), s8, s9, s10, none, s12] _
    refine wpSs_cons (wpS_set 8 (wpE_callTy (DL.call_listD rfl) ok_list m_list PyProof.Rows.boot_list (wpA_cons (wpE_var 7 rfl (wpA_nil ?_)))) scRi.nd)
    show wpSs _ _ _ [some (.own .feed), some (.d (kindsD ks)), some (.d (logD lg)), some (.d (graphD ks lg)), some (.d (.list (wss.map worldD))), some (.d (.str tx)), some (.d (.int (i : Nat))), some (.d (worldD ws)), some (.d (worldD ws)), s9, s10, none, s12] _
    refine wpSs_cons (wpS_set 9 (wpE_call (spN_spD (GO lg ws hin hl1)) hr1 gO kO bO (wpA_cons (wpE_var 2 rfl (wpA_cons (wpE_var 8 rfl (wpA_nil ⟨rfl, rfl, fun d hd => ?_⟩)))))) scRi.nd)
    obtain ⟨rs, rfl, zs, hord, rfl⟩ := hd
    have hwp' : WP (carK s l) lg ws := by rw [← hks]; exact hwp
    obtain ⟨vs, rfl, hrw, hov, hp1, hp2⟩ := ord_right ho hwp' hord
    rw [← hks] at hrw
    rw [← worldD_eq]
    have hinv : InR lg vs := fun p hp => fitsIJ_in (gPairs_mem.mp (hrw.fit p hp))
    have hvl6 := hrw.len
    have hl2 : vs.length < 1000 := by omega
    show wpSs _ _ _ [some (.own .feed), some (.d (kindsD ks)), some (.d (logD lg)), some (.d (graphD ks lg)), some (.d (.list (wss.map worldD))), some (.d (.str tx)), some (.d (.int (i : Nat))), some (.d (worldD ws)), some (.d (worldD ws)), some (.d (worldD vs)), s10, none, s12] _
    refine wpSs_cons (wpS_expr (wpE_call (GB lg ws hin hl1) hr gB kB bB (wpA_cons (wpE_var 2 rfl (wpA_cons (wpE_var 8 rfl (wpA_nil ⟨rfl, rfl, fun d hd => ?_⟩)))))))
    refine wpSs_cons (wpS_if (wpT_mono (P := fun k => k = false) (wpT_W ?_) fun k hk => ?_))
    · refine wpW_or (wpT_cmp (op_neDD hr.units) ok_ne (nomark _) (wpE_var 8 rfl (wpE_var 7 rfl (r_eqLL (clA_world ws) (clA_world ws) ⟨_, rfl, ?_⟩))))
      rw [show PyData.eqv (.list (ws.map fun p => pairD (pr p))) (.list (ws.map fun p => pairD (pr p))) = true from eqv_world ws ws rfl]
      refine iteF (wpW_or (wpT_not (wpT_val (wpE_call (GI ks lg vs hrw) hr1 gI kI bI (wpA_cons (wpE_var 3 rfl (wpA_cons (wpE_var 9 rfl (wpA_nil ⟨rfl, rfl, fun d hd => ⟨true, hd, iteF ?_⟩⟩)))))))))
      refine wpW_or1 (wpT_val (wpE_call (GV lg vs hinv) hr1 gV kV bV (wpA_cons (wpE_var 2 rfl (wpA_cons (wpE_var 9 rfl (wpA_nil ⟨rfl, rfl, fun d hd => ⟨false, ?_, rfl⟩⟩)))))))
      rw [hd, hov]
    subst hk
    refine iteF (wpSs_nil ?_)
    refine wpSs_cons (wpS_if (wpT_mono (P := fun k => k = false) (wpT_cmp op_notBl ok_notB (nomark _) (wpE_call (GB lg vs hinv hl2) hr gB kB bB (wpA_cons (wpE_var 2 rfl (wpA_cons (wpE_var 9 rfl (wpA_nil ⟨rfl, rfl, fun d hd => ?_⟩))))))) fun k hk => ?_))
    · rw [hd, hov]
      exact wpE_bool ⟨_, rfl, rfl⟩
    subst hk
    refine iteF (wpSs_nil ?_)
    show wpSs _ _ _ [some (.own .feed), some (.d (kindsD ks)), some (.d (logD lg)), some (.d (graphD ks lg)), some (.d (.list (wss.map worldD))), some (.d (.str tx)), some (.d (.int (i : Nat))), some (.d (worldD ws)), some (.d (worldD ws)), some (.d (worldD vs)), s10, none, s12] _
    refine wpSs_cons (wpS_for (wpI_range m_range (wpA_cons (wpE_int (wpA_nil ⟨_, rfl, ⟨by decide, by decide⟩, ?_⟩)))) PassesOwn.never rfl)
    refine ⟨fun g δ' => ∃ s10, δ' = [some (.own .feed), some (.d (kindsD ks)), some (.d (logD lg)), some (.d (graphD ks lg)), some (.d (.list (wss.map worldD))), some (.d (.str tx)), some (.d (.int (i : Nat))), some (.d (worldD ws)), some (.d (worldD ws)), some (.d (worldD vs)), s10, none, s12], ⟨_, rfl⟩, ?_, ?_⟩
    · rintro g d δ' hd ⟨s10, rfl⟩
      obtain ⟨hg, rfl⟩ := rng_get hd
      have hg2 : g < 2 := hg
      have hg01 : g = 0 ∨ g = 1 := by omega
      obtain ⟨sel, hsel, hperm⟩ : ∃ sel : Nat × Nat → Nat, (∀ p : Nat × Nat, atI [(PyData.int (p.1 : Nat) : D), .int (p.2 : Nat)] (g : Nat) = some (.int (sel p : Nat))) ∧ (vs.map sel).Perm (ws.map sel) := by
        rcases hg01 with rfl | rfl
        · exact ⟨(·.1), fun p => rfl, hp1⟩
        · exact ⟨(·.2), fun p => rfl, hp2⟩
      have hpermI : ((vs.map sel).map fun k => ((k : Nat) : Int)).Perm ((ws.map sel).map fun k => ((k : Nat) : Int)) := hperm.map _
      have natI : ∀ us : World', (us.map fun p => (PyData.int (sel p : Nat) : D)) = ((us.map sel).map fun k => ((k : Nat) : Int)).map PyData.int := fun us => by
        rw [List.map_map, List.map_map]
        rfl
      refine wpG_name 10 ?_ scRi.nd
      show wpSs _ _ _ [some (.own .feed), some (.d (kindsD ks)), some (.d (logD lg)), some (.d (graphD ks lg)), some (.d (.list (wss.map worldD))), some (.d (.str tx)), some (.d (.int (i : Nat))), some (.d (worldD ws)), some (.d (worldD ws)), some (.d (worldD vs)), some (.d (.int (g : Nat))), none, s12] _
      refine wpSs_one (wpS_if (wpT_mono (P := fun k => k = false) (wpT_cmp (op_neDD hr.units) ok_ne (nomark _) (wpE_callB cr_sortedI ok_sortI m_sorted boot_sorted2 (wpA_cons (wpE_lcG (c := none) 11 rfl (wpI_list (wpE_var 9 rfl ⟨_, rfl, ?_⟩)) rfl scRi.nd (blkOk_by (N := nRi) (sc := defScope sRight) (by decide +kernel)) rfl)))) fun k hk => ?_))
      · refine ⟨by rw [List.length_map]; exact small36 (by omega), fun i acc => acc = (vs.take i).map fun p => PyData.int (sel p : Nat), rfl, fun j d acc hd hv z H C cl fp => ?_, fun acc hv => ?_⟩
        · obtain ⟨p, hp, hm, rfl⟩ := map_get (f := fun p => pairD (pr p)) hd
          refine wpE_ix (wpE_var 11 rfl (wpE_var 10 rfl ⟨_, hsel p, ?_⟩))
          rw [hv]
          show (vs.take j).map _ ++ [PyData.int (sel p : Nat)] = (vs.take (j + 1)).map _
          rw [List.take_succ, hp, List.map_append]
          rfl
        · rw [hv, List.length_map, List.take_length, natI]
          refine wpA_nil ⟨_, rfl, fun ms hms hup => ?_⟩
          refine wpE_callB cr_sortedI ok_sortI m_sorted boot_sorted2 (wpA_cons (wpE_lcG (c := none) 11 rfl (wpI_list (wpE_var 7 rfl ⟨_, rfl, ?_⟩)) rfl scRi.nd (blkOk_by (N := nRi) (sc := defScope sRight) (by decide +kernel)) rfl))
          refine ⟨by rw [List.length_map]; exact small36 (by omega), fun i acc => acc = (ws.take i).map fun p => PyData.int (sel p : Nat), rfl, fun j d acc hd hv z H C cl fp => ?_, fun acc hv => ?_⟩
          · obtain ⟨p, hp, hm, rfl⟩ := map_get (f := fun p => pairD (pr p)) hd
            refine wpE_ix (wpE_var 11 rfl (wpE_var 10 rfl ⟨_, hsel p, ?_⟩))
            rw [hv]
            show (ws.take j).map _ ++ [PyData.int (sel p : Nat)] = (ws.take (j + 1)).map _
            rw [List.take_succ, hp, List.map_append]
            rfl
          · rw [hv, List.length_map, List.take_length, natI]
            refine wpA_nil ⟨_, rfl, fun ns hns hup2 => ?_⟩
            have e : ms = ns := (up_srt hup ((hms.trans hpermI).trans hns.symm)).trans (up_srt hup2 (List.Perm.refl ns)).symm
            subst e
            refine r_eqLL (clA_map fun i _ => cl_int _ i) (clA_map fun i _ => cl_int _ i) ⟨_, rfl, ?_⟩
            show (!PyData.eqvAll _ _) = false
            rw [eqv_map eqv_intD, decide_eq_true rfl]
            rfl
      subst hk
      exact iteF (wpSs_nil ⟨_, rfl⟩)
    · rintro δ' ⟨s10, rfl⟩
      refine wpSs_cons (wpS_set 8 (wpE_callTy (DL.call_listD rfl) ok_list m_list PyProof.Rows.boot_list (wpA_cons (wpE_var 9 rfl (wpA_nil ?_)))) scRi.nd)
      show wpSs _ _ _ [some (.own .feed), some (.d (kindsD ks)), some (.d (logD lg)), some (.d (graphD ks lg)), some (.d (.list (wss.map worldD))), some (.d (.str tx)), some (.d (.int (i : Nat))), some (.d (worldD ws)), some (.d (worldD vs)), some (.d (worldD vs)), s10, none, s12] _
      refine wpSs_cons (wpS_callN 12 (GO lg vs hinv hl2) hr1 gO kO bO (wpA_cons (wpE_var 2 rfl (wpA_cons (wpE_var 8 rfl (wpA_nil ⟨rfl, rfl, fun rs hrs => ?_⟩))))) scRi.nd)
      obtain ⟨zs2, hord2, rfl⟩ := hrs
      obtain ⟨es2, xs2, pe2, _, _, _, pz2, _⟩ := hord2
      show wpSs _ _ _ [some (.own .feed), some (.d (kindsD ks)), some (.d (logD lg)), some (.d (graphD ks lg)), some (.d (.list (wss.map worldD))), some (.d (.str tx)), some (.d (.int (i : Nat))), some (.d (worldD ws)), some (.d (worldD vs)), some (.d (worldD vs)), s10, none, some (.own (.lst (zs2.map pairD)))] _
      refine wpSs_cons (wpS_append 12 rfl (wpE_none ⟨?_, ?_⟩) (hpe := fun a b => pe_bm PySem.F.plainAttrs_list PySem.F.slot_list_append PySem.F.type_list_append mt_append a b))
      · have h1 : es2.length = vs.length := by rw [pe2.length_eq]; exact List.length_map _
        have h2 : zs2.length ≤ es2.length := by
          rw [pz2.length_eq, List.length_map, List.length_zip]
          exact Nat.min_le_left _ _
        rw [List.length_map]
        exact small36 (by omega)
      refine wpSs_one (wpS_if (wpT_mono (P := fun k => k = false) (wpT_W ?_) fun k hk => ?_))
      · refine wpW_or (wpT_cmp (op_neDD hr.units) ok_ne (nomark _) (wpE_var 8 rfl (wpE_var 9 rfl (r_eqLL (clA_world vs) (clA_world vs) ⟨_, rfl, ?_⟩))))
        rw [show PyData.eqv (.list (vs.map fun p => pairD (pr p))) (.list (vs.map fun p => pairD (pr p))) = true from eqv_world vs vs rfl]
        refine iteF (wpW_or1 (wpT_cmp (op_inD hu65) ok_inPN rfl (wpE_none (wpE_call (spN_spD (GO lg vs hinv hl2)) hr1 gO kO bO (wpA_cons (wpE_var 2 rfl (wpA_cons (wpE_var 8 rfl (wpA_nil ⟨rfl, rfl, fun d hd => ?_⟩)))))))))
        obtain ⟨rs, rfl, zs3, _, rfl⟩ := hd
        exact ⟨zs3, rfl, rfl, _, rfl, rfl⟩
      subst hk
      exact iteF (wpSs_nil ⟨_, _, _, _, _, _, rfl⟩)
  · rintro δ' ⟨s6, s7, s8, s9, s10, s12, rfl⟩
    refine wpSs_one (wpS_ret (wpE_cmp (op_eqDD hr.units) ok_eq (nomark _) (wpE_callB (call_reprQ qt hu80) ok_repr m_repr boot_repr' (wpA_cons (wpE_var 2 rfl (wpA_nil (r_reprT hS (by decide) (by decide) ?_)))))))
    refine wpE_var 5 rfl (r_eqS ?_)
    show PyData.bool (decide (PyData.shown (logD lg) = tx)) = _
    rw [← htx, decide_eq_true rfl]
end
end K31

set_option Elab.async false
set_option linter.all false
set_option maxRecDepth 100000
set_option maxHeartbeats 1000000
namespace K31
open PySem PySem.Spec L2 DL
section
variable {P : Program} {w : World} {K : PySem.W.Frag} {mg : Str → Option Value} {base : Heap} {Tb : List Addr}
theorem fnOk_ex {α : Type} {Good : α → Prop} {k : Nat} {f : Addr} {fd : FuncData} {ps : List Str} {sp : α → Sp} (h : ∀ a, Good a → FnOk P w K mg base CX0 k f fd ps (sp a)) : FnOk P w K mg base CX0 k f fd ps (fun vs H Q E => ∃ a, Good a ∧ sp a vs H Q E) :=
  ⟨fun vs H Q E ⟨a, ha, q⟩ => (h a ha).len vs H Q E q, fun A outer s H args us vs Q E hr he hb hv ⟨a, ha, hs⟩ => (h a ha).run A outer s H args us vs Q E hr he hb hv hs⟩
theorem boot_boolT : bootBuiltins "bool" = some (.type "bool") := by decide +kernel
theorem goodK_nd {ks : Kinds} (h : GoodK ks) : (ks.map (·.1)).Nodup := h.nd
abbrev nLaw : List Str := ["script", "k", "feed", "kinds", "log", "world", "found"]
theorem scLaw : FnScope nLaw ["script"] (defScope sLaw) := ⟨rfl, rfl, rfl, by decide +kernel, rfl, by decide +kernel, by decide +kernel⟩
theorem law_body {fL c : Addr} {s : Shared} {H : Hp} {E : XK} {ns : List Int} (hpre : ns.length ≤ 63) (hr : Room 4 (callerA.deeper (PyProof.Rows.envOfC "law" (defScope sLaw) s.heap.objs.size fL (.ref c)))) (h0 : H sysModules = none) (h1 : s.heap.get? sysModules ≠ none)
    (m_range : mg "range" = none) (m_max : mg "max" = none) (m_min : mg "min" = none) (m_len : mg "len" = none) (m_isi : mg "isinstance" = none) (m_bool : mg "bool" = none) (m_sorted : mg "sorted" = none)
    {fF : Addr} {fdF : FuncData} (GF : FnOk P w K mg base CX0 1 fF fdF ["script", "k"] (spFeedG K)) (gF : mg "_law_feed" = some (.ref fF)) (kF : PySem.W.keepIn K (.ref fF) = true) (bF : Binds K fdF ["script", "k"] [])
    {f1 : Addr} {fd1 : FuncData} (G1 : GOne P w K mg base Tb f1 fd1) (g1 : mg "_law_one_kind" = some (.ref f1)) (k1 : PySem.W.keepIn K (.ref f1) = true) (b1 : Binds K fd1 ["feed"] [])
    {fR : Addr} {fdR : FuncData} (GR : GRight P w K mg base Tb fR fdR) (gR : mg "_law_is_right" = some (.ref fR)) (kR : PySem.W.keepIn K (.ref fR) = true) (bR : Binds K fdR ["feed", "kinds", "log"] [])
    {fK : Addr} {fdK : FuncData} (GK : GKinds P w K mg base Tb fK fdK) (gK : mg "_law_kinds" = some (.ref fK)) (kK : PySem.W.keepIn K (.ref fK) = true) (bK : Binds K fdK ["feed"] [])
    {fL' : Addr} {fdL : FuncData} (GL : GLog P w K mg base Tb fL' fdL) (gL : mg "_law_log" = some (.ref fL')) (kL : PySem.W.keepIn K (.ref fL') = true) (bL : Binds K fdL ["feed", "kinds", "most"] [])
    {fG : Addr} {fdG : FuncData} (GG : GGraph P w K mg base Tb fG fdG) (gG : mg "_law_graph" = some (.ref fG)) (kG : PySem.W.keepIn K (.ref fG) = true) (bG : Binds K fdG ["kinds", "log"] [])
    {fW : Addr} {fdW : FuncData} (GWs : GWorlds P w K mg base Tb fW fdW) (gW : mg "_law_worlds" = some (.ref fW)) (kW : PySem.W.keepIn K (.ref fW) = true) (bW : Binds K fdW ["graph", "log"] [])
    {fV : Addr} {fdV : FuncData} (GV : GOver P w K mg base Tb fV fdV) (gV : mg "_law_overtakes" = some (.ref fV)) (kV : PySem.W.keepIn K (.ref fV) = true) (bV : Binds K fdV ["log", "world"] [])
    {fB : Addr} {fdB : FuncData} (GB : GIsOrd P w K mg base Tb fB fdB) (gB : mg "is_ordered" = some (.ref fB)) (kB : PySem.W.keepIn K (.ref fB) = true) (bB : Binds K fdB ["log", "world"] []) :
    wpSs (cxOf CX0 P w K mg base nLaw "law" (defScope sLaw) fL (.ref c) callerA [] s H E).nox Tb (defBody sLaw) (startS ns nLaw) { nx := fun _ => False, rt := fun d => d = .bool true } := by
  have hr3 : Room 3 (callerA.deeper (PyProof.Rows.envOfC "law" (defScope sLaw) s.heap.objs.size fL (.ref c))) := hr.mono (by decide)
  have hr2 : Room 2 (callerA.deeper (PyProof.Rows.envOfC "law" (defScope sLaw) s.heap.objs.size fL (.ref c))) := hr.mono (by decide)
  have hr1 : Room 1 (callerA.deeper (PyProof.Rows.envOfC "law" (defScope sLaw) s.heap.objs.size fL (.ref c))) := hr.mono (by decide)
  have qt : Qt (cxOf CX0 P w K mg base nLaw "law" (defScope sLaw) fL (.ref c) callerA [] s H E).nox := ⟨rfl, h0, h1, rfl⟩
  refine wpSs_cons (wpS_for (wpI_range m_range ?_) PassesOwn.never rfl)
  refine wpA_cons (wpE_callB (call_max2 rfl) ok_max m_max PyProof.Rows.boot_max ?_)
  repeat (first | ((with_reducible show wpA _ _ (_ :: _) _ _); refine wpA_cons ?_) | with_reducible refine wpA_nil ?_ | with_reducible refine wpE_int ?_ | with_reducible refine wpE_none ?_ | with_reducible refine wpE_bool ?_ | with_reducible refine wpE_str ?_ | with_reducible refine r_addI ?_ | with_reducible refine r_subI ?_ | with_reducible refine r_small (by with_unfolding_all rfl) ?_ | with_reducible refine r_addL (by with_unfolding_all rfl) ?_ | ((with_reducible show wpE _ _ (.Name _ _) _ _); first | refine wpE_var 0 rfl ?_ | refine wpE_var 1 rfl ?_ | refine wpE_var 2 rfl ?_ | refine wpE_var 3 rfl ?_ | refine wpE_var 4 rfl ?_ | refine wpE_var 5 rfl ?_ | refine wpE_var 6 rfl ?_ | refine wpE_var 7 rfl ?_ | refine wpE_var 8 rfl ?_ | refine wpE_var 9 rfl ?_ | refine wpE_var 10 rfl ?_ | refine wpE_var 11 rfl ?_ | refine wpE_var 12 rfl ?_ | refine wpE_var 13 rfl ?_) | ((with_reducible show wpE _ _ (.Tuple _ _ _) _ _); refine wpE_tup ?_) | ((with_reducible show wpE _ _ (.List _ _) _ _); refine wpE_lst ?_) | ((with_reducible show wpE _ _ (.BinOp _ .Add _ _) _ _); refine wpE_bin op_addD ok_add ?_) | ((with_reducible show wpE _ _ (.BinOp _ .Sub _ _) _ _); refine wpE_bin op_sub ok_sub ?_) | ((with_reducible show wpE _ _ (.Dict [_, _] _ _) _ _); refine wpE_disp2 ?_) | ((with_reducible show wpE _ _ (.Dict [_] _ _) _ _); refine wpE_disp1 ?_) | with_reducible refine r_d2 (by decide +kernel) ?_ | with_reducible refine r_d1 ?_)
  refine wpE_callB (call_min2 rfl) ok_min m_min PyProof.Rows.boot_min ?_
  repeat (first | ((with_reducible show wpA _ _ (_ :: _) _ _); refine wpA_cons ?_) | with_reducible refine wpA_nil ?_ | with_reducible refine wpE_int ?_ | with_reducible refine wpE_none ?_ | with_reducible refine wpE_bool ?_ | with_reducible refine wpE_str ?_ | with_reducible refine r_addI ?_ | with_reducible refine r_subI ?_ | with_reducible refine r_small (by with_unfolding_all rfl) ?_ | with_reducible refine r_addL (by with_unfolding_all rfl) ?_ | ((with_reducible show wpE _ _ (.Name _ _) _ _); first | refine wpE_var 0 rfl ?_ | refine wpE_var 1 rfl ?_ | refine wpE_var 2 rfl ?_ | refine wpE_var 3 rfl ?_ | refine wpE_var 4 rfl ?_ | refine wpE_var 5 rfl ?_ | refine wpE_var 6 rfl ?_ | refine wpE_var 7 rfl ?_ | refine wpE_var 8 rfl ?_ | refine wpE_var 9 rfl ?_ | refine wpE_var 10 rfl ?_ | refine wpE_var 11 rfl ?_ | refine wpE_var 12 rfl ?_ | refine wpE_var 13 rfl ?_) | ((with_reducible show wpE _ _ (.Tuple _ _ _) _ _); refine wpE_tup ?_) | ((with_reducible show wpE _ _ (.List _ _) _ _); refine wpE_lst ?_) | ((with_reducible show wpE _ _ (.BinOp _ .Add _ _) _ _); refine wpE_bin op_addD ok_add ?_) | ((with_reducible show wpE _ _ (.BinOp _ .Sub _ _) _ _); refine wpE_bin op_sub ok_sub ?_) | ((with_reducible show wpE _ _ (.Dict [_, _] _ _) _ _); refine wpE_disp2 ?_) | ((with_reducible show wpE _ _ (.Dict [_] _ _) _ _); refine wpE_disp1 ?_) | with_reducible refine r_d2 (by decide +kernel) ?_ | with_reducible refine r_d1 ?_)
  refine wpE_lenS 0 rfl m_len ?_
  refine wpA_nil (r_min (wpA_nil (r_max (wpA_nil ⟨_, rfl, ⟨by omega, by omega⟩, ?_⟩))))
  refine ⟨fun i δ' => ∃ s1 s2 s3 s4 s5 s6, δ' = [some (.scr ns), s1, s2, s3, s4, s5, s6], ⟨_, _, _, _, _, _, rfl⟩, ?_, ?_⟩
  · rintro i d δ' hd ⟨s1, s2, s3, s4, s5, s6, rfl⟩
    obtain ⟨_, rfl⟩ := rng_get hd
    refine wpG_name 1 ?_ scLaw.nd
    show wpSs _ _ _ [some (.scr ns), some (.d (.int (i : Nat))), s2, s3, s4, s5, s6] _
    refine wpSs_cons (wpS_feedG 0 2 GF hr1 gF kF bF rfl ?_ scLaw.nd)
    repeat (first | ((with_reducible show wpA _ _ (_ :: _) _ _); refine wpA_cons ?_) | with_reducible refine wpA_nil ?_ | with_reducible refine wpE_int ?_ | with_reducible refine wpE_none ?_ | with_reducible refine wpE_bool ?_ | with_reducible refine wpE_str ?_ | with_reducible refine r_addI ?_ | with_reducible refine r_subI ?_ | with_reducible refine r_small (by with_unfolding_all rfl) ?_ | with_reducible refine r_addL (by with_unfolding_all rfl) ?_ | ((with_reducible show wpE _ _ (.Name _ _) _ _); first | refine wpE_var 0 rfl ?_ | refine wpE_var 1 rfl ?_ | refine wpE_var 2 rfl ?_ | refine wpE_var 3 rfl ?_ | refine wpE_var 4 rfl ?_ | refine wpE_var 5 rfl ?_ | refine wpE_var 6 rfl ?_ | refine wpE_var 7 rfl ?_ | refine wpE_var 8 rfl ?_ | refine wpE_var 9 rfl ?_ | refine wpE_var 10 rfl ?_ | refine wpE_var 11 rfl ?_ | refine wpE_var 12 rfl ?_ | refine wpE_var 13 rfl ?_) | ((with_reducible show wpE _ _ (.Tuple _ _ _) _ _); refine wpE_tup ?_) | ((with_reducible show wpE _ _ (.List _ _) _ _); refine wpE_lst ?_) | ((with_reducible show wpE _ _ (.BinOp _ .Add _ _) _ _); refine wpE_bin op_addD ok_add ?_) | ((with_reducible show wpE _ _ (.BinOp _ .Sub _ _) _ _); refine wpE_bin op_sub ok_sub ?_) | ((with_reducible show wpE _ _ (.Dict [_, _] _ _) _ _); refine wpE_disp2 ?_) | ((with_reducible show wpE _ _ (.Dict [_] _ _) _ _); refine wpE_disp1 ?_) | with_reducible refine r_d2 (by decide +kernel) ?_ | with_reducible refine r_d1 ?_)
    refine ⟨i, rfl, ?_⟩
    show wpSs _ _ _ [some (.scr ns), some (.d (.int (i : Nat))), some (.own .feed), s3, s4, s5, s6] _
    refine wpSs_cons (wpS_unp (wpE_callF 2 G1 hr3 g1 k1 b1 rfl (wpA_nil ⟨rfl, rfl, fun d hd => ?_⟩)))
    obtain ⟨sh, lo, lg, rfl, hs0, hs1, hs2, ho⟩ := hd
    refine wpG_lst (js := [3, 4]) (pgs_cons (pg_name (i := 3) scLaw.nd rfl (.inl rfl)) (pgs_cons (pg_name (i := 4) scLaw.nd rfl (.inl rfl)) pgs_nil)) ⟨_, rfl, rfl, ?_⟩ rfl
    show wpSs _ _ _ [some (.scr ns), some (.d (.int (i : Nat))), some (.own .feed), some (.d (kindsD (carK sh lo))), some (.d (logD lg)), s5, s6] _
    refine wpSs_cons (wpS_if (wpT_not (wpT_val (wpE_callFG 2 (GR sh lo lg ho) qt hr3 gR kR bR rfl (wpA_cons (wpE_var 3 rfl (wpA_cons (wpE_var 4 rfl (wpA_nil ⟨rfl, rfl, fun d hd => ⟨true, hd, iteF (wpSs_nil ?_)⟩⟩)))))))))
    show wpSs _ _ _ [some (.scr ns), some (.d (.int (i : Nat))), some (.own .feed), some (.d (kindsD (carK sh lo))), some (.d (logD lg)), s5, s6] _
    refine wpSs_cons (wpS_set 3 (wpE_callF 2 GK hr2 gK kK bK rfl (wpA_nil ⟨rfl, rfl, fun d hd => ?_⟩)) scLaw.nd)
    obtain ⟨ks, rfl, hk⟩ := hd
    show wpSs _ _ _ [some (.scr ns), some (.d (.int (i : Nat))), some (.own .feed), some (.d (kindsD ks)), some (.d (logD lg)), s5, s6] _
    refine wpSs_cons (wpS_set 4 (wpE_callF 2 GL hr gL kL bL rfl (wpA_cons (wpE_var 3 rfl (wpA_cons (wpE_int (wpA_nil ⟨rfl, ⟨ks, rfl, hk⟩, fun d hd => ?_⟩)))))) scLaw.nd)
    obtain ⟨lg2, rfl, hle, hlx⟩ := hd
    show wpSs _ _ _ [some (.scr ns), some (.d (.int (i : Nat))), some (.own .feed), some (.d (kindsD ks)), some (.d (logD lg2)), s5, s6] _
    refine wpSs_one (wpS_for (wpI_list (wpE_takeL (wpE_call (GWs ks lg2 hle hlx) hr1 gW kW bW (wpA_cons (wpE_call (GG ks lg2 hk.nd hle hlx) hr2 gG kG bG (wpA_cons (wpE_var 3 rfl (wpA_cons (wpE_var 4 rfl (wpA_nil ⟨rfl, rfl, fun d hd => ?_⟩)))))))))) PassesOwn.never rfl)
    subst hd
    refine wpA_cons (wpE_var 4 rfl (wpA_nil ⟨rfl, rfl, fun d hd => ?_⟩))
    obtain ⟨wss, rfl, hwl, hws⟩ := hd
    refine ⟨_, rfl, wpE_int ⟨20, rfl, _, rfl, ?_⟩⟩
    refine ⟨fun m δ' => ∃ s5 s6, δ' = [some (.scr ns), some (.d (.int (i : Nat))), some (.own .feed), some (.d (kindsD ks)), some (.d (logD lg2)), s5, s6], ⟨_, _, rfl⟩, ?_, ?_⟩
    · rintro m d δ' hd ⟨s5, s6, rfl⟩
      have hdm := List.mem_of_mem_take (List.mem_of_getElem? hd)
      obtain ⟨ws, hwm, rfl⟩ := List.mem_map.mp hdm
      have hwp := (hws ws hwm).wp hle
      have hin := hwp.inr
      have hl6 := hwp.len
      refine wpG_name 5 ?_ scLaw.nd
      show wpSs _ _ _ [some (.scr ns), some (.d (.int (i : Nat))), some (.own .feed), some (.d (kindsD ks)), some (.d (logD lg2)), some (.d (worldD ws)), s6] _
      refine wpSs_cons (wpS_set 6 (wpE_mono (P := fun d => d = .bool (!overt lg2 ws)) ?_ fun d hd => ?_) scLaw.nd)
      · -- sorted(world) has the same pairs
        have key : ∀ vs : World', vs.Perm ws → FnOk P w K mg base CX0 2 fB fdB ["log", "world"] (FnV Tb [logD lg2, worldD vs] (.bool (!overt lg2 ws))) := fun vs hv => by
          have := GB lg2 vs (fun p hp => hin p (hv.mem_iff.mp hp)) (by rw [hv.length_eq]; omega)
          rwa [overt_perm hv] at this
        have GB' : FnOk P w K mg base CX0 2 fB fdB ["log", "world"] (spD Tb 0 2 (fun ds => ∃ vs : World', vs.Perm ws ∧ ds = [logD lg2, worldD vs]) fun _ d => d = .bool (!overt lg2 ws)) := by
          refine (fnOk_ex key).imp fun vs H Q E h => ?_
          obtain ⟨O0, M, us, ds, e1, e2, e3, e4, e5, e6, e7, e8, ⟨v, hv, e9⟩, q⟩ := h
          exact ⟨v, hv, O0, M, us, ds, e1, e2, e3, e4, e5, e6, e7, e8, e9, q⟩
        refine wpE_call GB' hr2 gB kB bB (wpA_cons (wpE_var 4 rfl (wpA_cons (wpE_callB cr_sortedPO ok_sortP m_sorted boot_sorted2 (wpA_cons (wpE_var 5 rfl (wpA_nil ⟨ws.map pr, by rw [worldD_eq], fun qs hqp hqs => ?_⟩)))))))
        obtain ⟨vs, rfl, hpm⟩ := perm_pr hqp
        rw [← worldD_eq]
        exact wpA_nil ⟨rfl, ⟨vs, hpm, rfl⟩, fun d hd => hd⟩
      subst hd
      show wpSs _ _ _ [some (.scr ns), some (.d (.int (i : Nat))), some (.own .feed), some (.d (kindsD ks)), some (.d (logD lg2)), some (.d (worldD ws)), some (.d (.bool (!overt lg2 ws)))] _
      refine wpSs_one (wpS_if (wpT_mono (P := fun k => k = false) (wpT_W ?_) fun k hk => ?_))
      · refine wpW_or (wpT_not (wpT_val (wpE_isi m_isi m_bool boot_boolT (wpE_var 6 rfl ⟨true, rfl, ⟨_, rfl, iteF ?_⟩⟩))))
        refine wpW_or1 (wpT_cmp (op_eqDD hr.units) ok_eq (nomark _) (wpE_var 6 rfl (wpE_call (GV lg2 ws hin) hr1 gV kV bV (wpA_cons (wpE_var 4 rfl (wpA_cons (wpE_var 5 rfl (wpA_nil ⟨rfl, rfl, fun d hd => ?_⟩))))))))
        subst hd
        refine r_eqB ⟨_, rfl, ?_⟩
        cases overt lg2 ws <;> rfl
      subst hk
      exact iteF (wpSs_nil ⟨_, _, rfl⟩)
    · rintro δ' ⟨s5, s6, rfl⟩
      exact ⟨_, _, _, _, _, _, rfl⟩
  · rintro δ' ⟨s1, s2, s3, s4, s5, s6, rfl⟩
    exact wpSs_one (wpS_ret (wpE_bool rfl))
end
end K31

set_option Elab.async false
set_option linter.all false
set_option maxRecDepth 100000
set_option maxHeartbeats 1000000
namespace K31
open PySem PySem.Spec L2 DL
theorem all_mk {l : PySem.W.OpenLaw} {w : World} {K : PySem.W.Frag} {h : Heap} {mg : Str → Option Value} {q : Program} {fa : Addr} (X : K.In h) (G : h.Ns mainGlobals mg) (hfa : mg "law" = some (.ref fa)) (TF : TabFacts K h q)
    {f1 c1 f2 c2 f3 c3 f4 c4 f5 c5 f6 c6 f7 c7 f8 c8 f9 c9 f10 c10 f11 c11 f12 c12 f13 c13 f14 c14 f15 c15 f16 c16 f17 c17 : Addr} {od1 an1 od2 an2 od3 an3 od4 an4 od5 an5 od6 an6 od7 an7 od8 an8 od9 an9 od10 an10 od11 an11 od12 an12 od13 an13 od14 an14 od15 an15 od16 an16 od17 an17 : Option Addr} {sl1 sl2 sl3 sl4 sl5 sl6 sl7 sl8 sl9 sl10 sl11 sl12 sl13 sl14 sl15 sl16 sl17 : Array (Option Value)} {oc1 kV1 dc1 pm1 ct1 oc2 kV2 dc2 pm2 ct2 oc3 kV3 dc3 pm3 ct3 oc4 kV4 dc4 pm4 ct4 oc5 kV5 dc5 pm5 ct5 oc6 kV6 dc6 pm6 ct6 oc7 kV7 dc7 pm7 ct7 oc8 kV8 dc8 pm8 ct8 oc9 kV9 dc9 pm9 ct9 oc10 kV10 dc10 pm10 ct10 oc11 kV11 dc11 pm11 ct11 oc12 kV12 dc12 pm12 ct12 oc13 kV13 dc13 pm13 ct13 oc14 kV14 dc14 pm14 ct14 oc15 kV15 dc15 pm15 ct15 oc16 kV16 dc16 pm16 ct16 oc17 kV17 dc17 pm17 ct17 : Value}
    {P1 : Addr} {ec1 : Value} {dd1 : Option Addr} {vs1 : Array Value} {sv1 : Array (Option Value)}
    (a1 : PySem.W.nsIn K mainGlobals "is_ordered" = some (some (.ref f1))) (l1 : K.lookup f1 = some ⟨oc1, od1, .func (PySem.W.fnOf "is_ordered" "is_ordered" (defArgs sIsOrd) (defBody sIsOrd) (defScope sIsOrd) .none kV1 dc1 pm1 an1 (.ref c1) ct1), sl1⟩) (c1' : PySem.W.codeIn K (.ref c1) "is_ordered" = true) (k1 : PySem.W.keepIn K (.ref f1) = true)
    (a2 : PySem.W.nsIn K mainGlobals "ordered_world" = some (some (.ref f2))) (l2 : K.lookup f2 = some ⟨oc2, od2, .func (PySem.W.fnOf "ordered_world" "ordered_world" (defArgs sOrdW) (defBody sOrdW) (defScope sOrdW) .none kV2 dc2 pm2 an2 (.ref c2) ct2), sl2⟩) (c2' : PySem.W.codeIn K (.ref c2) "ordered_world" = true) (k2 : PySem.W.keepIn K (.ref f2) = true)
    (a3 : PySem.W.nsIn K mainGlobals "_law_feed" = some (some (.ref f3))) (l3 : K.lookup f3 = some ⟨oc3, od3, .func (PySem.W.fnOf "_law_feed" "_law_feed" (defArgs sFeed) (defBody sFeed) (defScope sFeed) .none kV3 dc3 pm3 an3 (.ref c3) ct3), sl3⟩) (c3' : PySem.W.codeIn K (.ref c3) "_law_feed" = true) (k3 : PySem.W.keepIn K (.ref f3) = true)
    (a4 : PySem.W.nsIn K mainGlobals "_law_take" = some (some (.ref f4))) (l4 : K.lookup f4 = some ⟨oc4, od4, .func (PySem.W.fnOf "_law_take" "_law_take" (defArgs sTake) (defBody sTake) (defScope sTake) .none kV4 dc4 pm4 an4 (.ref c4) ct4), sl4⟩) (c4' : PySem.W.codeIn K (.ref c4) "_law_take" = true) (k4 : PySem.W.keepIn K (.ref f4) = true)
    (a5 : PySem.W.nsIn K mainGlobals "_law_pick" = some (some (.ref f5))) (l5 : K.lookup f5 = some ⟨oc5, od5, .func (PySem.W.fnOf "_law_pick" "_law_pick" (defArgs sPick) (defBody sPick) (defScope sPick) .none kV5 dc5 pm5 an5 (.ref c5) ct5), sl5⟩) (c5' : PySem.W.codeIn K (.ref c5) "_law_pick" = true) (k5 : PySem.W.keepIn K (.ref f5) = true)
    (a6 : PySem.W.nsIn K mainGlobals "_law_kinds" = some (some (.ref f6))) (l6 : K.lookup f6 = some ⟨oc6, od6, .func (PySem.W.fnOf "_law_kinds" "_law_kinds" (defArgs sKinds) (defBody sKinds) (defScope sKinds) .none kV6 dc6 pm6 an6 (.ref c6) ct6), sl6⟩) (c6' : PySem.W.codeIn K (.ref c6) "_law_kinds" = true) (k6 : PySem.W.keepIn K (.ref f6) = true)
    (a7 : PySem.W.nsIn K mainGlobals "_law_line" = some (some (.ref f7))) (l7 : K.lookup f7 = some ⟨oc7, od7, .func (PySem.W.fnOf "_law_line" "_law_line" (defArgs sLine) (defBody sLine) (defScope sLine) .none kV7 dc7 pm7 an7 (.ref c7) ct7), sl7⟩) (c7' : PySem.W.codeIn K (.ref c7) "_law_line" = true) (k7 : PySem.W.keepIn K (.ref f7) = true)
    (a8 : PySem.W.nsIn K mainGlobals "_law_log" = some (some (.ref f8))) (l8 : K.lookup f8 = some ⟨oc8, od8, .func (PySem.W.fnOf "_law_log" "_law_log" (defArgs sLog) (defBody sLog) (defScope sLog) .none kV8 dc8 pm8 an8 (.ref c8) ct8), sl8⟩) (c8' : PySem.W.codeIn K (.ref c8) "_law_log" = true) (k8 : PySem.W.keepIn K (.ref f8) = true)
    (a9 : PySem.W.nsIn K mainGlobals "_law_fits" = some (some (.ref f9))) (l9 : K.lookup f9 = some ⟨oc9, od9, .func (PySem.W.fnOf "_law_fits" "_law_fits" (defArgs sFits) (defBody sFits) (defScope sFits) .none kV9 dc9 pm9 an9 (.ref c9) ct9), sl9⟩) (c9' : PySem.W.codeIn K (.ref c9) "_law_fits" = true) (k9 : PySem.W.keepIn K (.ref f9) = true)
    (a10 : PySem.W.nsIn K mainGlobals "_law_may_be_open" = some (some (.ref f10))) (l10 : K.lookup f10 = some ⟨oc10, od10, .func (PySem.W.fnOf "_law_may_be_open" "_law_may_be_open" (defArgs sMay) (defBody sMay) (defScope sMay) .none kV10 dc10 pm10 an10 (.ref c10) ct10), sl10⟩) (c10' : PySem.W.codeIn K (.ref c10) "_law_may_be_open" = true) (k10 : PySem.W.keepIn K (.ref f10) = true)
    (a11 : PySem.W.nsIn K mainGlobals "_law_graph" = some (some (.ref f11))) (l11 : K.lookup f11 = some ⟨oc11, od11, .func (PySem.W.fnOf "_law_graph" "_law_graph" (defArgs sGraph) (defBody sGraph) (defScope sGraph) .none kV11 dc11 pm11 an11 (.ref c11) ct11), sl11⟩) (c11' : PySem.W.codeIn K (.ref c11) "_law_graph" = true) (k11 : PySem.W.keepIn K (.ref f11) = true)
    (a12 : PySem.W.nsIn K mainGlobals "_law_is_world" = some (some (.ref f12))) (l12 : K.lookup f12 = some ⟨oc12, od12, .func (PySem.W.fnOf "_law_is_world" "_law_is_world" (defArgs sIsWorld) (defBody sIsWorld) (defScope sIsWorld) .none kV12 dc12 pm12 an12 (.ref c12) ct12), sl12⟩) (c12' : PySem.W.codeIn K (.ref c12) "_law_is_world" = true) (k12 : PySem.W.keepIn K (.ref f12) = true)
    (a13 : PySem.W.nsIn K mainGlobals "_law_worlds" = some (some (.ref f13))) (l13 : K.lookup f13 = some ⟨oc13, od13, .func (PySem.W.fnOf "_law_worlds" "_law_worlds" (defArgs sWorlds) (defBody sWorlds) (defScope sWorlds) .none kV13 dc13 pm13 an13 (.ref c13) ct13), sl13⟩) (c13' : PySem.W.codeIn K (.ref c13) "_law_worlds" = true) (k13 : PySem.W.keepIn K (.ref f13) = true)
    (a14 : PySem.W.nsIn K mainGlobals "_law_one_kind" = some (some (.ref f14))) (l14 : K.lookup f14 = some ⟨oc14, od14, .func (PySem.W.fnOf "_law_one_kind" "_law_one_kind" (defArgs sOneKind) (defBody sOneKind) (defScope sOneKind) .none kV14 dc14 pm14 an14 (.ref c14) ct14), sl14⟩) (c14' : PySem.W.codeIn K (.ref c14) "_law_one_kind" = true) (k14 : PySem.W.keepIn K (.ref f14) = true)
    (a15 : PySem.W.nsIn K mainGlobals "_law_overtakes" = some (some (.ref f15))) (l15 : K.lookup f15 = some ⟨oc15, od15, .func (PySem.W.fnOf "_law_overtakes" "_law_overtakes" (defArgs sOvert) (defBody sOvert) (defScope sOvert) .none kV15 dc15 pm15 an15 (.ref c15) ct15), sl15⟩) (c15' : PySem.W.codeIn K (.ref c15) "_law_overtakes" = true) (k15 : PySem.W.keepIn K (.ref f15) = true)
    (a16 : PySem.W.nsIn K mainGlobals "_law_is_right" = some (some (.ref f16))) (l16 : K.lookup f16 = some ⟨oc16, od16, .func (PySem.W.fnOf "_law_is_right" "_law_is_right" (defArgs sRight) (defBody sRight) (defScope sRight) .none kV16 dc16 pm16 an16 (.ref c16) ct16), sl16⟩) (c16' : PySem.W.codeIn K (.ref c16) "_law_is_right" = true) (k16 : PySem.W.keepIn K (.ref f16) = true)
    (a17 : PySem.W.nsIn K mainGlobals "law" = some (some (.ref f17))) (l17 : K.lookup f17 = some ⟨oc17, od17, .func (PySem.W.fnOf "law" "law" (defArgs sLaw) (defBody sLaw) (defScope sLaw) .none kV17 dc17 pm17 an17 (.ref c17) ct17), sl17⟩) (c17' : PySem.W.codeIn K (.ref c17) "law" = true) (k17 : PySem.W.keepIn K (.ref f17) = true)
    (lc1 : K.lookup c1 = some ⟨ec1, dd1, .fields vs1, sv1⟩) (v1 : vs1[11]? = some (.ref P1)) (n1 : K.lookup P1 = none) (q1 : ((PyProof.Rows.recsOf q).any fun r => r.name == ("is_ordered" : Str)) = true)
    (z_any : PySem.W.nsIn K mainGlobals "any" = some none) (z_zip : PySem.W.nsIn K mainGlobals "zip" = some none) (z_max : PySem.W.nsIn K mainGlobals "max" = some none) (z_min : PySem.W.nsIn K mainGlobals "min" = some none) (z_len : PySem.W.nsIn K mainGlobals "len" = some none) (z_list : PySem.W.nsIn K mainGlobals "list" = some none) (z_abs : PySem.W.nsIn K mainGlobals "abs" = some none) (z_range : PySem.W.nsIn K mainGlobals "range" = some none) (z_repr : PySem.W.nsIn K mainGlobals "repr" = some none) (z_isinstance : PySem.W.nsIn K mainGlobals "isinstance" = some none) (z_bool : PySem.W.nsIn K mainGlobals "bool" = some none) (z_set : PySem.W.nsIn K mainGlobals "set" = some none) (z_sorted : PySem.W.nsIn K mainGlobals "sorted" = some none) (z_enumerate : PySem.W.nsIn K mainGlobals "enumerate" = some none) :
    LawG l w K 4 63 mg fa h := by
  have e := hfa.symm.trans (PySem.W.mg_of X G a17)
  cases e
  have F1 := (left_mk (st := sIsOrd) a1 l1 c1' k1).F
  have g1 := PySem.W.mg_of X G a1
  have b1 := F1.fun.binds (ps := ["log", "world"]) fun _ _ _ _ _ _ us hl => match us, hl with | [_, _], _ => rfl
  have F2 := (left_mk (st := sOrdW) a2 l2 c2' k2).F
  have g2 := PySem.W.mg_of X G a2
  have b2 := F2.fun.binds (ps := ["log", "world"]) fun _ _ _ _ _ _ us hl => match us, hl with | [_, _], _ => rfl
  have F3 := (left_mk (st := sFeed) a3 l3 c3' k3).F
  have g3 := PySem.W.mg_of X G a3
  have b3 := F3.fun.binds (ps := ["script", "k"]) fun _ _ _ _ _ _ us hl => match us, hl with | [_, _], _ => rfl
  have F4 := (left_mk (st := sTake) a4 l4 c4' k4).F
  have g4 := PySem.W.mg_of X G a4
  have b4 := F4.fun.binds (ps := ["feed", "size"]) fun _ _ _ _ _ _ us hl => match us, hl with | [_, _], _ => rfl
  have F5 := (left_mk (st := sPick) a5 l5 c5' k5).F
  have g5 := PySem.W.mg_of X G a5
  have b5 := F5.fun.binds (ps := ["feed", "choices"]) fun _ _ _ _ _ _ us hl => match us, hl with | [_, _], _ => rfl
  have F6 := (left_mk (st := sKinds) a6 l6 c6' k6).F
  have g6 := PySem.W.mg_of X G a6
  have b6 := F6.fun.binds (ps := ["feed"]) fun _ _ _ _ _ _ us hl => match us, hl with | [_], _ => rfl
  have F7 := (left_mk (st := sLine) a7 l7 c7' k7).F
  have g7 := PySem.W.mg_of X G a7
  have b7 := F7.fun.binds (ps := ["feed", "time", "name", "plate"]) fun _ _ _ _ _ _ us hl => match us, hl with | [_, _, _, _], _ => rfl
  have F8 := (left_mk (st := sLog) a8 l8 c8' k8).F
  have g8 := PySem.W.mg_of X G a8
  have b8 := F8.fun.binds (ps := ["feed", "kinds", "most"]) fun _ _ _ _ _ _ us hl => match us, hl with | [_, _, _], _ => rfl
  have F9 := (left_mk (st := sFits) a9 l9 c9' k9).F
  have g9 := PySem.W.mg_of X G a9
  have b9 := F9.fun.binds (ps := ["kinds", "one", "other"]) fun _ _ _ _ _ _ us hl => match us, hl with | [_, _, _], _ => rfl
  have F10 := (left_mk (st := sMay) a10 l10 c10' k10).F
  have g10 := PySem.W.mg_of X G a10
  have b10 := F10.fun.binds (ps := ["kinds", "log", "gate", "number"]) fun _ _ _ _ _ _ us hl => match us, hl with | [_, _, _, _], _ => rfl
  have F11 := (left_mk (st := sGraph) a11 l11 c11' k11).F
  have g11 := PySem.W.mg_of X G a11
  have b11 := F11.fun.binds (ps := ["kinds", "log"]) fun _ _ _ _ _ _ us hl => match us, hl with | [_, _], _ => rfl
  have F12 := (left_mk (st := sIsWorld) a12 l12 c12' k12).F
  have g12 := PySem.W.mg_of X G a12
  have b12 := F12.fun.binds (ps := ["graph", "value"]) fun _ _ _ _ _ _ us hl => match us, hl with | [_, _], _ => rfl
  have F13 := (left_mk (st := sWorlds) a13 l13 c13' k13).F
  have g13 := PySem.W.mg_of X G a13
  have b13 := F13.fun.binds (ps := ["graph", "log"]) fun _ _ _ _ _ _ us hl => match us, hl with | [_, _], _ => rfl
  have F14 := (left_mk (st := sOneKind) a14 l14 c14' k14).F
  have g14 := PySem.W.mg_of X G a14
  have b14 := F14.fun.binds (ps := ["feed"]) fun _ _ _ _ _ _ us hl => match us, hl with | [_], _ => rfl
  have F15 := (left_mk (st := sOvert) a15 l15 c15' k15).F
  have g15 := PySem.W.mg_of X G a15
  have b15 := F15.fun.binds (ps := ["log", "world"]) fun _ _ _ _ _ _ us hl => match us, hl with | [_, _], _ => rfl
  have F16 := (left_mk (st := sRight) a16 l16 c16' k16).F
  have g16 := PySem.W.mg_of X G a16
  have b16 := F16.fun.binds (ps := ["feed", "kinds", "log"]) fun _ _ _ _ _ _ us hl => match us, hl with | [_, _, _], _ => rfl
  have F17 := (left_mk (st := sLaw) a17 l17 c17' k17).F
  have g17 := PySem.W.mg_of X G a17
  have m_any := PySem.W.mg_none_of X G z_any
  have m_zip := PySem.W.mg_none_of X G z_zip
  have m_max := PySem.W.mg_none_of X G z_max
  have m_min := PySem.W.mg_none_of X G z_min
  have m_len := PySem.W.mg_none_of X G z_len
  have m_list := PySem.W.mg_none_of X G z_list
  have m_abs := PySem.W.mg_none_of X G z_abs
  have m_range := PySem.W.mg_none_of X G z_range
  have m_repr := PySem.W.mg_none_of X G z_repr
  have m_isinstance := PySem.W.mg_none_of X G z_isinstance
  have m_bool := PySem.W.mg_none_of X G z_bool
  have m_set := PySem.W.mg_none_of X G z_set
  have m_sorted := PySem.W.mg_none_of X G z_sorted
  have m_enumerate := PySem.W.mg_none_of X G z_enumerate
  have t1 := TF _ _ _ _ _ _ _ _ _ _ q1 a1 l1 rfl rfl lc1 v1
  refine ⟨PySem.W.fnOf "law" "law" (defArgs sLaw) (defBody sLaw) (defScope sLaw) .none kV17 dc17 pm17 an17 (.ref c17) ct17, [(c1, P1)], "law", sLaw, c17, nLaw, ?_, ?_, ?_, fun s v => .of_eq rfl, F17, scLaw, fun base s H E ns hns _ _ hB hr h0 h1 => ?_⟩
  · exact fun p hp => by
      have e := List.mem_singleton.mp hp
      rw [e]; exact t1.2
  · exact fun p hp => by
      have e := List.mem_singleton.mp hp
      rw [e]; exact n1
  · exact fun p hp => by
      have e := List.mem_singleton.mp hp
      rw [e]; exact t1.1
  · have GIO : GIsOrd _ _ _ _ _ _ _ _ := ok_isOrd (P := l.prog) (w := w) (mg := mg) (base := base) (Tb := [P1]) F1 (hB (c1, P1) (by simp)) (show P1 ∈ _ by simp) m_any
    have GOR : GOrd _ _ _ _ _ _ _ _ := fun lg ws hin hl => ok_ordW (P := l.prog) (w := w) (mg := mg) (base := base) (Tb := [P1]) F2 m_sorted m_zip lg ws hin hl
    have GFE := ok_feed (P := l.prog) (w := w) (mg := mg) (base := base) F3 m_list m_max m_abs
    have GTA := ok_take (P := l.prog) (w := w) (mg := mg) (base := base) (Tb := [P1]) F4
    have GPI := ok_pick (P := l.prog) (w := w) (mg := mg) (base := base) (Tb := [P1]) F5 m_len GTA g4 k4 b4
    have GKI := ok_kinds (P := l.prog) (w := w) (mg := mg) (base := base) (Tb := [P1]) F6 GTA g4 k4 b4
    have GLN := ok_line (P := l.prog) (w := w) (mg := mg) (base := base) (Tb := [P1]) F7 GPI g5 k5 b5
    have GLG := ok_log (P := l.prog) (w := w) (mg := mg) (base := base) (Tb := [P1]) F8 m_range m_len m_sorted GTA g4 k4 b4 GPI g5 k5 b5 GLN g7 k7 b7
    have GFI := ok_fits (P := l.prog) (w := w) (mg := mg) (base := base) (Tb := [P1]) F9
    have GMA := ok_may (P := l.prog) (w := w) (mg := mg) (base := base) (Tb := [P1]) F10 m_min m_max
    have GGR := ok_graph (P := l.prog) (w := w) (mg := mg) (base := base) (Tb := [P1]) F11 m_range m_len m_enumerate GFI g9 k9 b9 GMA g10 k10 b10
    have GIW := ok_isW (P := l.prog) (w := w) (mg := mg) (base := base) (Tb := [P1]) F12 m_isinstance m_list m_range m_len m_set m_sorted
    have GWS := ok_worlds (P := l.prog) (w := w) (mg := mg) (base := base) (Tb := [P1]) F13 m_range m_len
    have GON := ok_one (P := l.prog) (w := w) (mg := mg) (base := base) (Tb := [P1]) F14 m_range m_len GTA g4 k4 b4 GPI g5 k5 b5
    have GOV := ok_over (P := l.prog) (w := w) (mg := mg) (base := base) (Tb := [P1]) F15
    have GRI := ok_right (P := l.prog) (w := w) (mg := mg) (base := base) (Tb := [P1]) F16 m_range m_len m_min m_sorted m_list m_repr GPI g5 k5 b5 GGR g11 k11 b11 GWS g13 k13 b13 GIW g12 k12 b12 GOV g15 k15 b15 GOR g2 k2 b2 GIO g1 k1 b1
    exact law_body (P := l.prog) (w := w) (mg := mg) (base := base) (Tb := [P1]) hns hr h0 h1 m_range m_max m_min m_len m_isinstance m_bool m_sorted GFE g3 k3 b3 GON g14 k14 b14 GRI g16 k16 b16 GKI g6 k6 b6 GLG g8 k8 b8 GGR g11 k11 b11 GWS g13 k13 b13 GOV g15 k15 b15 GIO g1 k1 b1
end K31

set_option Elab.async false
set_option linter.all false
open PySem PySem.W PyProof.Rows in
set_option maxRecDepth 100000 in
set_option maxHeartbeats 0 in
theorem PySem.Challenge.cw_gatepairs_k31_whole_worlds_without_overt_holds : PySem.Challenge.rw_gatepairs_k31_whole_worlds_without_overt.Holds := by
  w_on; o_law; k_head; (case hw => w_witness2)
  k_fill
  refine DL.walk_G (l := PySem.Challenge.rw_gatepairs_k31_whole_worlds_without_overt) (n := 63) (k := 4) rfl (by decide) rfl ⟨rfl, by decide, by decide⟩ (by kernel_rfl) (fun w h Y => PySem.W.kIn_of Y) ?F
  case F =>
    intro w mg fa h KX G hmg TF
    refine' K31.all_mk KX G hmg TF ?a1 ?l1 ?c1' ?k1 ?a2 ?l2 ?c2' ?k2 ?a3 ?l3 ?c3' ?k3 ?a4 ?l4 ?c4' ?k4 ?a5 ?l5 ?c5' ?k5 ?a6 ?l6 ?c6' ?k6 ?a7 ?l7 ?c7' ?k7 ?a8 ?l8 ?c8' ?k8 ?a9 ?l9 ?c9' ?k9 ?a10 ?l10 ?c10' ?k10 ?a11 ?l11 ?c11' ?k11 ?a12 ?l12 ?c12' ?k12 ?a13 ?l13 ?c13' ?k13 ?a14 ?l14 ?c14' ?k14 ?a15 ?l15 ?c15' ?k15 ?a16 ?l16 ?c16' ?k16 ?a17 ?l17 ?c17' ?k17 ?lc1 ?v1 ?n1 ?q1 ?z_any ?z_zip ?z_max ?z_min ?z_len ?z_list ?z_abs ?z_range ?z_repr ?z_isinstance ?z_bool ?z_set ?z_sorted ?z_enumerate
    (case a1 => k_is)
    (case l1 => k_is)
    (case c1' => k_is)
    (case k1 => k_is)
    (case a2 => k_is)
    (case l2 => k_is)
    (case c2' => k_is)
    (case k2 => k_is)
    (case a3 => k_is)
    (case l3 => k_is)
    (case c3' => k_is)
    (case k3 => k_is)
    (case a4 => k_is)
    (case l4 => k_is)
    (case c4' => k_is)
    (case k4 => k_is)
    (case a5 => k_is)
    (case l5 => k_is)
    (case c5' => k_is)
    (case k5 => k_is)
    (case a6 => k_is)
    (case l6 => k_is)
    (case c6' => k_is)
    (case k6 => k_is)
    (case a7 => k_is)
    (case l7 => k_is)
    (case c7' => k_is)
    (case k7 => k_is)
    (case a8 => k_is)
    (case l8 => k_is)
    (case c8' => k_is)
    (case k8 => k_is)
    (case a9 => k_is)
    (case l9 => k_is)
    (case c9' => k_is)
    (case k9 => k_is)
    (case a10 => k_is)
    (case l10 => k_is)
    (case c10' => k_is)
    (case k10 => k_is)
    (case a11 => k_is)
    (case l11 => k_is)
    (case c11' => k_is)
    (case k11 => k_is)
    (case a12 => k_is)
    (case l12 => k_is)
    (case c12' => k_is)
    (case k12 => k_is)
    (case a13 => k_is)
    (case l13 => k_is)
    (case c13' => k_is)
    (case k13 => k_is)
    (case a14 => k_is)
    (case l14 => k_is)
    (case c14' => k_is)
    (case k14 => k_is)
    (case a15 => k_is)
    (case l15 => k_is)
    (case c15' => k_is)
    (case k15 => k_is)
    (case a16 => k_is)
    (case l16 => k_is)
    (case c16' => k_is)
    (case k16 => k_is)
    (case a17 => k_is)
    (case l17 => k_is)
    (case c17' => k_is)
    (case k17 => k_is)
    (case lc1 => k_is)
    (case v1 => rfl)
    (case n1 => kernel_rfl)
    (case q1 => kernel_rfl)
    (case z_any => k_is)
    (case z_zip => k_is)
    (case z_max => k_is)
    (case z_min => k_is)
    (case z_len => k_is)
    (case z_list => k_is)
    (case z_abs => k_is)
    (case z_range => k_is)
    (case z_repr => k_is)
    (case z_isinstance => k_is)
    (case z_bool => k_is)
    (case z_set => k_is)
    (case z_sorted => k_is)
    (case z_enumerate => k_is)
#print axioms PySem.Challenge.cw_gatepairs_k31_whole_worlds_without_overt_holds
