import PyProof.Rows.All
import Wide.All
import OpenK.AllK
import Wide.FinOn
import HandS.Base
import HandS.Call
import HandS.TupSets
import HandS.Dict
import KE.KeyNested
import KE.KDictKeyed
import HandS.List
import HandS.Comp
import HandS.Lambda
import HandS.AnyAll
import HandS.ExcInit
import HandS.Style
import HandS.TupAny
import HandS.Text
import HandS.Words
import HandS.WordsList
import HandS.IsInst
import HandS.Iter
import HandS.Zip
import HandS.NoneIn
import HandS.Strs
import KE.SortData
import HandS.Ends
import HandS.Exc
import HandS.Nested
import KE.KExcSuper
import HandS.FStrTup
import HandS.ExcField
import HandS.ExcCtx
import HandS.HotCalls
import HandS.ExcInitHot
import HandS.FStr
import HandS.CallSlots
import KE.KExcIs
import HandS.ExcIs
import KE.GoesEnum
import KE.SortKeyHeap
import HandS.Keys
import HandS.SortKw
import HandS.ExcValue
import HandS.More
import HandS.Conv
import HandS.EndTab
import PySem.Challenge.RW_cornerplane_k16_steep_slots_and_ruler
set_option Elab.async false
set_option linter.all false
set_option maxRecDepth 100000
set_option maxHeartbeats 4000000
/-! # Sets of tuples of whole numbers: made of a tuple, asked with in -/
namespace DD
open PySem PySem.Spec PyProof.Rows L2
/-- where a search for the hash h stands behind c steps -/
abbrev pst (t : SetTable) (h : Int) (c : Nat) : SetTable.Probe := nth t.mask (runAt t.mask (SetTable.bits h % (t.mask + 1)) (SetTable.bits h)) c
theorem pst_add {t : SetTable} {h : Int} {c q : Nat} : nth t.mask (pst t h c) q = pst t h (c + q) := (nth_add t.mask c _ q).symm
theorem nth_dm {m : Nat} : ∀ (n : Nat) (p : SetTable.Probe), p.dummy = none → (nth m p n).dummy = none
  | 0, _, e => e
  | n + 1, p, e => nth_dm n _ (by unfold adv; split <;> exact e)
/-- a set of tuples as a search needs it -/
structure SetQ (P : Program) (w : World) (h : Heap) (a : Addr) (L : List (Addr × List Int)) (es : Array (Int × Value)) (ep : Nat) (t : SetTable) : Prop where
  ob : ∃ o, h.get? a = some o ∧ o.ExactSet ∧ o.data = .set es ep t
  rows : es.toList = rowsOf P w L
  tab : TabOk t (L.map fun p => thash P w p.2)
  room : L.length * 5 < t.mask * 3
  tup : ∀ p ∈ L, IsT P w h p.2 p.1
theorem SetQ.size {P : Program} {w : World} {h : Heap} {a : Addr} {L : List (Addr × List Int)} {es : Array (Int × Value)} {ep : Nat} {t : SetTable} (R : SetQ P w h a L es ep t) : es.size = L.length := by
  have e := congrArg List.length R.rows
  simpa [rowsOf] using e
theorem SetQ.fits {P : Program} {w : World} {h : Heap} {a : Addr} {L : List (Addr × List Int)} {es : Array (Int × Value)} {ep : Nat} {t : SetTable} (R : SetQ P w h a L es ep t) : t.fits es.size = true := by
  have e1 := R.tab.sz
  have e2 := R.size
  have e3 := R.room
  rw [List.length_map] at e1
  unfold SetTable.fits SetTable.fill
  rw [R.tab.dm]
  simp
  omega
theorem SetQ.entry {P : Program} {w : World} {h : Heap} {a : Addr} {L : List (Addr × List Int)} {es : Array (Int × Value)} {ep : Nat} {t : SetTable} (R : SetQ P w h a L es ep t) {i : Nat} {p : Addr × List Int} (hp : L[i]? = some p) : es[i]? = some (thash P w p.2, Value.ref p.1) := by
  rw [← Array.getElem?_toList, R.rows]; unfold rowsOf; rw [List.getElem?_map, hp]; rfl
theorem SetQ.gw {P : Program} {w : World} {h : Heap} {a : Addr} {L : List (Addr × List Int)} {es : Array (Int × Value)} {ep : Nat} {t : SetTable} (R : SetQ P w h a L es ep t) : ¬ t.gaveWay = true := by
  unfold SetTable.gaveWay; rw [mask_odd R.tab.mok]; decide
theorem hash_any (P P' : Program) (w w' : World) : thash P w = thash P' w' := rfl
section
variable {P : Program} {w : World} {A : Around} {E : Value → Shared → Prop} {s : Shared} {a : Addr} {L : List (Addr × List Int)} {es : Array (Int × Value)} {ep : Nat} {t : SetTable}
theorem row_hash (R : SetQ P w s.heap a L es ep t) {i : Nat} {p : Addr × List Int} (h : L[i]? = some p) : (es[i]?.map (·.1)).getD 0 = thash P w p.2 := by rw [R.entry h]; rfl
theorem row_live (R : SetQ P w s.heap a L es ep t) {i j : Nat} (h : t.place.toList[i]? = some j) : ∃ p, L[i]? = some p ∧ p ∈ L := by
  have e1 := (List.getElem?_eq_some_iff.mp h).1
  have e2 := R.tab.sz
  rw [List.length_map, ← Array.length_toList] at e2
  exact ⟨L[i]'(by omega), List.getElem?_eq_getElem _, List.getElem_mem _⟩
/-- the search that does not add -/
theorem seek (R : SetQ P w s.heap a L es ep t) {x : Addr} {k : List Int} (hx : IsT P w s.heap k x) (hu : A.units < cLine) {K : Nat} (b1 : K < 10 * SetTable.turns t.mask) (b2 : way t.mask (thash P w k) K ∉ t.place.toList)
    (b3 : ∀ c, c < K → way t.mask (thash P w k) c ∈ t.place.toList) {Q : SetFound → Shared → Prop} (yes : k ∈ L.map (·.2) → ∀ i, Q (.there (some i)) s) (no : k ∉ L.map (·.2) → ∀ j, Q (.free j false) s) (n : Nat) :
    ∀ (c : Nat) (st : Option SetTable.Probe), st.getD (t.probeStart (thash P w k)) = pst t (thash P w k) c → c ≤ K → K - c < n →
      (∀ (i : Nat) p, L[i]? = some p → p.2 = k → ∃ d, c ≤ d ∧ d < K ∧ t.place.toList[i]? = some (way t.mask (thash P w k) d)) → wpAny (model P w) A (setSearchFrom a (.ref x) (thash P w k) false n st) Q E s := by
  induction n with
  | zero => intro c st _ _ z; omega
  | succ n ih =>
    intro c st est cK fuel ahead
    obtain ⟨ob, gob, exo, dob⟩ := R.ob
    rw [setSearchFrom_succ]
    apply wpAny_bind; apply wpAny_setState_of gob dob R.fits
    dsimp only
    apply wp_if_neg R.gw
    have at_q : ∀ q, (nth t.mask (pst t (thash P w k) c) q).j = way t.mask (thash P w k) (c + q) := fun q => congrArg (·.j) pst_add
    have walk := go_spec t R.tab.ris R.tab.dm (fun i => (es[i]?.map (·.1)).getD 0) (thash P w k) (10 * SetTable.turns t.mask) (K - c) _ (nth_dm c _ rfl) (Nat.lt_of_le_of_lt (Nat.sub_le K c) b1)
      (fun q hq => by rw [at_q]; exact b3 _ (by omega)) (by rw [at_q, Nat.add_sub_cancel' cK]; exact b2)
    have pass : ∀ (i : Nat) (p : Addr × List Int), L[i]? = some p → p.2 = k → ∀ q, (∀ q' i' : Nat, q' < q → t.place.toList[i']? = some (nth t.mask (pst t (thash P w k) c) q').j → (fun i : Nat => (es[i]?.map (·.1)).getD 0) i' ≠ thash P w k) → ∃ d, c + q ≤ d ∧ d < K ∧ t.place.toList[i]? = some (way t.mask (thash P w k) d) := fun i p hp hk q none_ => by
      obtain ⟨d, d1, d2, d3⟩ := ahead i p hp hk
      refine ⟨d, Nat.le_of_not_lt fun z => ?_, d2, d3⟩
      exact none_ (d - c) i (by omega) (by rw [at_q, Nat.add_sub_cancel' d1]; exact d3) ((row_hash R hp).trans (by rw [hk]))
    rcases walk with ⟨q, i, hq, hi, -, none_, e⟩ | ⟨none_, e⟩
    · have e' : t.probe (fun i => (es[i]?.map (·.1)).getD 0) (thash P w k) (st.getD (t.probeStart (thash P w k))) = some (.candidate (way t.mask (thash P w k) (c + q)) i (pst t (thash P w k) (c + (q + 1)))) := by
        rw [est, ← at_q, ← pst_add]; exact e
      rw [e']
      dsimp only
      rw [at_q] at hi
      obtain ⟨p, hp, pL⟩ := row_live R hi
      have sl : t.slot (way t.mask (thash P w k) (c + q)) = .live i := slot_live R.tab.ris hi
      have tail : wpAny (model P w) A (searchRest a (.ref x) (thash P w k) false n es t (way t.mask (thash P w k) (c + q)) i (pst t (thash P w k) (c + (q + 1)))) Q E s := by
        unfold searchRest
        rw [R.entry hp]
        dsimp only
        apply wpAny_bind; apply wpAny_holding; apply wpAny_eqBool_tuple hu (R.tup p pL) hx
        apply wpAny_bind; apply wpAny_setState_of gob dob R.fits
        dsimp only
        apply wp_if_neg (by simp)
        rw [sameMem]
        dsimp only
        simp only [if_true, sl, R.entry hp]
        refine wpAny_bind (wpAny_isSame_ref_self (wpAny_bind (wpAny_pure ?_)))
        simp only [if_true]
        by_cases same : p.2 = k
        · apply wp_if_pos (by simp [same])
          exact wpAny_pure (yes (List.mem_map.mpr ⟨p, pL, same⟩) i)
        · apply wp_if_neg (by simp [same])
          refine ih _ _ rfl (by omega) (by omega) fun i0 p0 h0 hk0 => ?_
          obtain ⟨d, d1, d2, d3⟩ := pass i0 p0 h0 hk0 q none_
          refine ⟨d, Nat.lt_of_le_of_ne d1 fun z => ?_, d2, d3⟩
          have z' : c + q = d := z
          rw [← z'] at d3
          have s0 := slot_live R.tab.ris d3
          rw [sl] at s0
          cases s0
          rw [hp] at h0; cases h0
          exact same hk0
      by_cases hl : t.led = true
      · apply wp_if_neg (by simp [hl])
        exact tail
      · apply wp_if_pos (by simp [hl])
        refine wpAny_bind (seen_tup hx (fun y hy => ?_) (wp_if_neg (by decide) tail))
        obtain ⟨r, hr, rfl⟩ := List.mem_map.mp hy
        have hr' : r ∈ es.toList := by
          have := (show r ∈ es ∧ r.1 = thash P w k by simpa using hr).1
          simpa using this
        rw [R.rows] at hr'
        obtain ⟨p2, m2, rfl⟩ := List.mem_map.mp hr'
        exact ⟨_, _, rfl, R.tup p2 m2⟩
    · have e' : t.probe (fun i => (es[i]?.map (·.1)).getD 0) (thash P w k) (st.getD (t.probeStart (thash P w k))) = some (.empty (way t.mask (thash P w k) K) none) := by
        have z : way t.mask (thash P w k) K = (nth t.mask (pst t (thash P w k) c) (K - c)).j := by rw [at_q, Nat.add_sub_cancel' cK]
        rw [est, z]; exact e
      rw [e']
      refine wpAny_pure (no (fun hm => ?_) _)
      obtain ⟨p0, m0, k0⟩ := List.mem_map.mp hm
      obtain ⟨i0, l0, e0⟩ := List.getElem_of_mem m0
      obtain ⟨d, d1, d2, -⟩ := pass i0 p0 (by rw [List.getElem?_eq_getElem l0, e0]) k0 (K - c) none_
      omega
/-- is it one of them -/
theorem find_tup (R : SetQ P w s.heap a L es ep t) {x : Addr} {k : List Int} (hx : IsT P w s.heap k x) (hu : A.units < cLine) {Q : Option Nat → Shared → Prop} (yes : k ∈ L.map (·.2) → ∀ i, Q (some i) s) (no : k ∉ L.map (·.2) → Q none s) :
    wpAny (model P w) A (setFind a (.ref x) (thash P w k)) Q E s := by
  obtain ⟨ob, gob, exo, dob⟩ := R.ob
  have rm := R.room
  obtain ⟨K, b1, b2, b3⟩ := R.tab.first (by rw [List.length_map]; omega) (thash P w k)
  have small : K < 100000 := by
    have : 10 * SetTable.turns t.mask ≤ 1420 := by
      unfold SetTable.turns
      rcases R.tab.mok with e | e | e <;> omega
    omega
  unfold setFind
  rw [show (100000 : Nat) = 99999 + 1 from rfl, setFindIn]
  apply wpAny_bind; apply wpAny_setState_of gob dob R.fits
  dsimp only
  refine wp_if_neg (by unfold byScan Value.scannable; simp) ?_
  apply wpAny_bind
  unfold setSearch
  refine seek R hx hu b1 b2 b3 (fun m i => ?_) (fun m j => ?_) 100000 0 none rfl (Nat.zero_le K) small fun i p hp hk => ?_
  · exact wpAny_pure (yes m i)
  · exact wpAny_pure (no m)
  · have hh : (L.map fun p => thash P w p.2)[i]? = some (thash P w k) := by rw [List.getElem?_map, hp, ← hk]; rfl
    have hlen : i < t.place.toList.length := by
      have e1 := (List.getElem?_eq_some_iff.mp hp).1
      have e2 := R.tab.sz
      rw [List.length_map] at e2
      rw [Array.length_toList, e2]; exact e1
    have hj := List.getElem?_eq_getElem hlen
    obtain ⟨d, d1, d2⟩ := R.tab.before b2 hh hj
    exact ⟨d, Nat.zero_le d, d1, by rw [hj, d2]⟩

/-- a set as set() lays it -/
abbrev set0 (w : World) : Obj := { cls := .type "set", dict := none, data := .set #[] 0 (.fresh 0 0 (!w.params.followText "set-order")) }
theorem none_past {h : Heap} {b : Addr} (hb : h.objs.size ≤ b) : h.get? b = none := by
  cases q : h.get? b with
  | none => rfl
  | some o => exact absurd (Nat.lt_of_lt_of_le (Heap.lt_size q) hb) (Nat.lt_irrefl _)
/-- what set.__init__ of a tuple of tuples leaves -/
def Filled (P : Program) (w : World) (s : Shared) (ks : List (Addr × List Int)) (s2 : Shared) : Prop := ∃ h' tk L es ep t, s2 = { s with heap := h', toks := tk } ∧ SetTR P w h' s.heap.objs.size L es ep t ∧ Got ks ks.length L ∧ ∀ b o, s.heap.get? b = some o → h'.get? b = some o
theorem fill_tup {l : Addr} {xs : Array Value} {ks : List (Addr × List Int)} (hh : A.handled = none) (hl : s.heap.IsTuple l xs) (hx : xs.toList = ks.map fun p => Value.ref p.1) (hk : ∀ p ∈ ks, IsT P w s.heap p.2 p.1) (few : ks.length < 64) (hu : A.in1.units < cLine)
    (hne : l ≠ (s.heap.push (set0 w)).objs.size) : codeAny (model P w) A (.builtin "set.update.loop" ⟨[.ref s.heap.objs.size, .ref (s.heap.push (set0 w)).objs.size], []⟩)
      (wants (fun r s2 => r = .none ∧ Filled P w s ks s2) E) { s with heap := (s.heap.push (set0 w)).push { cls := .type "tuple_iterator", data := .fields #[.ref l, .int 0 0] } } := by
  have hn : xs.size = ks.length := by
    have := congrArg List.length hx
    simpa using this
  have old : l < s.heap.objs.size := by
    obtain ⟨o, e, -⟩ := hl
    exact Heap.lt_size e
  have s1 : (s.heap.push (set0 w)).objs.size = s.heap.objs.size + 1 := Heap.size_push ..
  have own : s.heap.objs.size ∉ [(s.heap.push (set0 w)).objs.size, l] := fun m => by
    rw [s1] at m
    rcases List.mem_cons.mp m with e | e
    · exact Nat.ne_of_lt (Nat.lt_succ_self _) e
    · exact Nat.ne_of_gt old (List.mem_singleton.mp e)
  have val : ∀ (i : Nat) (v : Value), xs[i]? = some v → ∃ p, ks[i]? = some p ∧ v = .ref p.1 := fun i v hv => by
    rw [← Array.getElem?_toList, hx, List.getElem?_map] at hv
    cases q : ks[i]? with
    | none => rw [q] at hv; cases hv
    | some p => rw [q] at hv; cases hv; exact ⟨p, rfl, rfl⟩
  refine set_update_tups ((Walks.tuple (A := A.in1) (by simp [hh]) _ l hne xs).toS) s.heap.objs.size own ks hn few val s.heap hk (none_past (Nat.le_refl _)) (fun b hb => none_past (by rw [List.mem_singleton.mp hb, s1]; omega)) hu (xs.size - 0) 0 _ rfl
    (Nat.zero_le _) ⟨⟨_, Heap.get?_push_size _ rfl, rfl, rfl⟩, ((hl.push _).push _)⟩ (fun b o e => Heap.get?_push_of_some _ (Heap.get?_push_of_some _ e)) ⟨[], #[], 0, _, setTR_fresh (Heap.get?_push_of_some _ (Heap.get?_push_size _ rfl)), Got.zero ks⟩ ?_
  intro s' L es ep t mv S g keep
  obtain ⟨h', gs, dr, tk, os'⟩ := s'
  have e1 : gs = s.gens := mv.gens
  have e2 : dr = s.drawn := mv.drawn
  have e3 : os' = s.os := mv.os
  subst e1 e2 e3
  exact ⟨rfl, h', tk, L, es, ep, t, rfl, S, by rw [← hn]; exact g, keep⟩

theorem init_tup {l : Addr} {xs : Array Value} {ks : List (Addr × List Int)} (hh : A.handled = none) (hl : s.heap.IsTuple l xs) (hx : xs.toList = ks.map fun p => Value.ref p.1) (hk : ∀ p ∈ ks, IsT P w s.heap p.2 p.1) (few : ks.length < 64) (hu : A.in1.in1.units < cLine) :
    codeAny (model P w) A (.call (.builtin "set.__init__") ⟨[.ref s.heap.objs.size, .ref l], []⟩) (wants (fun r s2 => r = .none ∧ Filled P w s ks s2) E) { s with heap := s.heap.push (set0 w) } := by
  obtain ⟨⟨c0, d0, da, sl⟩, ho, hc, n, hd⟩ := id hl
  simp only at hc hd
  subst hc hd
  have hne : l ≠ (s.heap.push (set0 w)).objs.size := by
    rw [show (s.heap.push (set0 w)).objs.size = s.heap.objs.size + 1 from Heap.size_push ..]
    exact Nat.ne_of_lt (Nat.lt_succ_of_lt (Heap.lt_size ho))
  have ho1 : (s.heap.push (set0 w)).get? l = some ⟨.type "tuple", d0, .seq xs n, sl⟩ := Heap.get?_push_of_some _ ho
  have i1 := F.sub_tuple_set
  have i2 := F.sub_tuple_frozenset
  have i3 : (Value.type "tuple" == Value.type "dict") = false := by decide
  have l1 : (s.heap.push (set0 w)).IsTuple l xs := hl.push _
  refine codeAny_call_builtin F.called_set.init.plain F.entry_set_init (check_set_init_1 ⟨_, Heap.get?_push_size _ rfl, rfl⟩ ?_)
  unfold Builtin.«set.__init__» noKeywords Builtin.Frozenset.updateFrom
  generalize e : pyIter = it
  wp_walk
  subst e
  apply wpAny_pyIter_tuple l1
  refine wpAny_bind (wpAny_runValue ?_)
  refine codeAny_mono (fill_tup (E := E) (by simp [hh]) hl hx hk few hu hne) fun r s2 hr => ?_
  cases r with
  | error e => exact hr
  | ok f =>
    cases f with
    | ret v =>
      obtain ⟨rfl, q⟩ := hr
      show wpAny _ _ _ _ _ _
      refine wpAny_pure ?_
      show wpAny _ _ (ret Value.none) _ _ _
      exact wpAny_pure ⟨rfl, q⟩
    | _ => exact hr.elim
theorem call_tup {l : Addr} {xs : Array Value} {ks : List (Addr × List Int)} {Q : Value → Shared → Prop} (hh : A.handled = none) (hl : s.heap.IsTuple l xs) (hx : xs.toList = ks.map fun p => Value.ref p.1) (hk : ∀ p ∈ ks, IsT P w s.heap p.2 p.1) (few : ks.length < 64)
    (hu : A.units + 4 < cLine) (fin : ∀ s2, Filled P w s ks s2 → Q (.ref s.heap.objs.size) s2) : wpAny (model P w) A (call (.type "set") [.ref l]) Q E s := by
  obtain ⟨c, tl, m1⟩ := F.called_set.mro
  have m2 := F.called_set.made
  have m3 := F.called_set.sub
  have m4 := F.called_set.notType
  have m5 := F.called_set.canCreate
  have m6 := F.typeCall_set_1 (.ref l)
  apply wpAny_call; apply codeAny_of_tree
  show wpAny _ _ (callAny (.type "set") _) _ _ _
  refine wpAny_pure ⟨Code.quiet_builtin _ (by decide +kernel), codeAny_builtin F.entry_type_call ?_⟩
  rw [Around.under_plain (weight_type_call_type "set" [.ref l] []) rfl]
  repeat (any_goals (first | assumption | wp_step))
  refine codeAny_mono (code_set_led1 (.ref l) (E := E) (Q₁ := fun v u => v = .ref s.heap.objs.size ∧ u = { s with heap := s.heap.push (set0 w) }) ⟨rfl, rfl⟩) fun r u hr => ?_
  cases r with
  | error e => exact hr
  | ok f =>
    cases f with
    | ret v =>
      obtain ⟨rfl, rfl⟩ := hr
      have g1 : (s.heap.push (set0 w)).get? s.heap.objs.size = some (set0 w) := Heap.get?_push_size _ rfl
      have g2 : Shared.TypeIs { s with heap := s.heap.push (set0 w) } (.ref s.heap.objs.size) "set" := ⟨_, g1, rfl⟩
      have g3 := F.called_set.init.lookup
      have g4 := F.called_set.init.bind (.ref s.heap.objs.size)
      repeat (any_goals (first | assumption | wp_step))
      refine codeAny_mono (init_tup (E := E) (by simp [hh]) hl hx hk few (by simp; omega)) fun r2 s2 h2 => ?_
      cases r2 with
      | error e => exact h2
      | ok f2 =>
        cases f2 with
        | ret v2 =>
          obtain ⟨rfl, q⟩ := h2
          repeat (any_goals (first | assumption | wp_step))
          exact fin _ q
        | _ => exact h2.elim
    | _ => exact hr.elim

theorem in_tup (R : SetQ P w s.heap a L es ep t) {x : Addr} {k : List Int} (hx : IsT P w s.heap k x) (hu : A.units + 4 < cLine) {Q : Value → Shared → Prop} (fin : ∀ n, Q (.bool (decide (k ∈ L.map (·.2)))) { s with toks := n }) :
    wpAny (model P w) A (compareOp .In (.ref x) (.ref a)) Q E s := by
  have ty : s.TypeIs (.ref a) "set" := by
    obtain ⟨o, e1, e2, -⟩ := R.ob
    exact ⟨o, e1, e2.1⟩
  show wpAny _ _ (do return .bool (← contains (.ref a) (.ref x))) Q E s
  apply wpAny_bind
  unfold contains
  try with_reducible apply wpAny_holding
  refine wpAny_bind (wpAny_specialOf ty F.slot_set_contains.lookup ?_)
  show wpAny _ _ (if (some (Value.builtin "set.__contains__") == some Value.none) = true then _ else _) _ E s
  rw [if_neg (by rw [beq_builtin_none]; decide)]
  refine wpAny_bind (wpAny_callSpecialUnlessNone?_slot (name := Str.ofString "__contains__") ty F.slot_set_contains (wpAny_call_entry F.slot_set_contains ty entry_set_contains ?_ (F.args_set_contains_2 _ _)))
  unfold Builtin.«frozenset.__contains__» Builtin.Frozenset.oneOther
  simp only [List.isEmpty_nil, bind_assoc]
  unfold Builtin.Frozenset.addrOf Builtin.Frozenset.withSetAsKey setContains
  apply wpAny_bind; apply wpAny_pure
  try dsimp only
  apply wpAny_bind; apply wpAny_pure
  try dsimp only
  apply wpAny_bind; apply wpAny_tryCatch
  apply wpAny_holding
  refine wpAny_bind (wpAny_pyHash_tuple (by simp; omega) hx ?_)
  have R' : SetQ P w ({ s with toks := s.toks + (k.length + 1) } : Shared).heap a L es ep t := R
  refine wpAny_bind (find_tup R' hx (by simp; omega) (fun m i => ?_) fun m => ?_)
  · refine wpAny_pure ?_
    show wpAny _ _ (ret (Value.bool true)) _ _ _
    exact wpAny_pure ⟨_, rfl, wpAny_truthy_bool (wpAny_pure (by have := fin (s.toks + (k.length + 1)); rwa [decide_eq_true m] at this))⟩
  · refine wpAny_pure ?_
    show wpAny _ _ (ret (Value.bool false)) _ _ _
    exact wpAny_pure ⟨_, rfl, wpAny_truthy_bool (wpAny_pure (by have := fin (s.toks + (k.length + 1)); rwa [decide_eq_false m] at this))⟩

end
/-- the set at a, whoever made it -/
structure SetP (h : Heap) (a : Addr) (L : List (Addr × List Int)) : Prop where
  ex : ∃ (es : Array (Int × Value)) (ep : Nat) (t : SetTable), (∃ o, h.get? a = some o ∧ o.ExactSet ∧ o.data = .set es ep t) ∧ (∀ P w, es.toList = rowsOf P w L ∧ TabOk t (L.map fun p => thash P w p.2)) ∧ L.length * 5 < t.mask * 3
def SetN (a : Addr) (L : List (Addr × List Int)) : HO := .ext fun h => SetP h a L
theorem setN_new {P : Program} {w : World} {H : Hp} {h : Heap} {a : Addr} {L : List (Addr × List Int)} (R : SetP h a L) : ObjOk P w H h a (SetN a L) := by
  have ⟨es, ep, t, ⟨o, ho, r⟩, q⟩ := R.ex
  refine ⟨R, ⟨o, ho⟩, fun h1 h2 p k => ?_⟩
  have ⟨es', ep', t', ⟨o', ho', r'⟩, q'⟩ := SetP.ex p
  exact ⟨es', ep', t', ⟨o', k o' ho', r'⟩, q'⟩
theorem setP_of {P : Program} {w : World} {h : Heap} {a : Addr} {L : List (Addr × List Int)} {es : Array (Int × Value)} {ep : Nat} {t : SetTable} (R : SetTR P w h a L es ep t) : SetP h a L :=
  ⟨es, ep, t, R.ob, fun P' w' => ⟨R.rows, R.tab⟩, R.room⟩
theorem SetP.full {P : Program} {w : World} {h : Heap} {a : Addr} {L : List (Addr × List Int)} (R : SetP h a L) (ht : ∀ p ∈ L, IsT P w h p.2 p.1) : ∃ es ep t, SetQ P w h a L es ep t := by
  obtain ⟨es, ep, t, h1, h2, h3⟩ := R.ex
  exact ⟨es, ep, t, h1, (h2 P w).1, (h2 P w).2, h3, ht⟩
section
variable {X : Cx}
/-- set(xs), xs a tuple of tuples of ints -/
def rSetTup (K : PySem.W.Frag) : List V → Hp → VK → Prop := fun xs H Q => ∃ (l : Addr) (ks : List (Addr × List Int)), xs = [V.ref l] ∧ (SqL K H l (ks.map fun p => V.ref p.1) ∨ SqT K H l (ks.map fun p => V.ref p.1)) ∧ (∀ p ∈ ks, SqT K H p.1 (p.2.map V.int)) ∧ ks.length < 64 ∧
  ∀ a L, H a = none → (∀ p ∈ L, p ∈ ks) → (∀ p ∈ ks, p.2 ∈ L.map (·.2)) → Q (.ref a) (upd H a (SetN a L))
theorem cr_setTup (hc : X.calm = true) (hu : X.A.units + 64 < cLine) : CallR X (.type "set") (rSetTup X.K) := by
  intro pins s σ H xs us Q I r h
  obtain ⟨l, ks, rfl, hl, hk, hf, q⟩ := h
  rw [Vals.ref1 r]
  have hn : H s.heap.objs.size = none := I.hok.fresh (Nat.le_refl _)
  have fin : ∀ (h' : Heap) (tk : Nat) L es ep t, SetTR X.prog X.w h' s.heap.objs.size L es ep t → Got ks ks.length L → (∀ b o, s.heap.get? b = some o → h'.get? b = some o) → ∃ v H', Inv X pins σ H' { s with heap := h', toks := tk } ∧ RelV v (.ref s.heap.objs.size) ∧ Q v H' := fun h' tk L es ep t R g k =>
    ⟨.ref _, _, I.laid (t' := tk) k (Nat.le_refl _) (setN_new (setP_of R)), rfl, q _ L hn (fun p hp => List.mem_of_mem_take (g.sub p hp)) fun p hp => g.all p (by rw [List.take_length]; exact hp)⟩
  rcases hl with hl | hl
  · obtain ⟨its, rv, pl, hz⟩ := I.list hl
    exact call_set_tups (P := X.prog) (w := X.w) ks (I.ok.hd hc) pl.isList (by simpa using refs_of_vals rv) (fun p hp => I.isT (hk p hp)) hf (by omega) fun h' tk L es ep t R g k => fin h' tk L es ep t R g k
  · obtain ⟨its, rv, pl, hz⟩ := I.tuple hl
    refine call_tup (P := X.prog) (w := X.w) (ks := ks) (I.ok.hd hc) pl (by simpa using refs_of_vals rv) (fun p hp => I.isT (hk p hp)) hf (by omega) fun s2 hs => ?_
    obtain ⟨h', tk, L, es, ep, t, rfl, R, g, k⟩ := hs
    exact fin h' tk L es ep t R g k
def rSetIn (K : PySem.W.Frag) (n : Bool) : V → V → Hp → VK → Prop := fun x y H Q => ∃ (p a : Addr) (k : List Int) (L : List (Addr × List Int)), x = .ref p ∧ y = .ref a ∧ SqT K H p (k.map V.int) ∧ H a = some (SetN a L) ∧ (∀ q ∈ L, SqT K H q.1 (q.2.map V.int)) ∧
  Q (.bl (if n then !decide (k ∈ L.map (·.2)) else decide (k ∈ L.map (·.2)))) H
theorem or_setIn (hu : X.A.units + 64 < cLine) : OpR X (compareOp .In) (rSetIn X.K false) := by
  intro pins s σ H x y v u Q I rx ry h
  obtain ⟨p, a, k, L, rfl, rfl, hp, ha, hL, q⟩ := h
  cases rx
  cases ry
  have S : SetP s.heap a L := (I.hok a _ ha).1
  obtain ⟨es, ep, t, R⟩ := S.full (P := X.prog) (w := X.w) fun r hr => I.isT (hL r hr)
  exact in_tup R (I.isT hp) (by omega) fun n => ⟨.bl _, H, I.tok n, rfl, q⟩
end
end DD

/-! # Dicts whose keys are tuples of whole numbers, nested -/
namespace DD
open PySem PySem.Spec PyProof.Rows L2
abbrev Fg := PySem.W.Frag
mutual
/-- keys of whole numbers alone -/
def intK : NestedKey → Bool
  | .num _ => true
  | .tup ks => intKs ks
  | .none => false
  | .text _ => false
def intKs : List NestedKey → Bool
  | [] => true
  | k :: ks => intK k && intKs ks
end
mutual
theorem hash_w {w w' : World} : ∀ k : NestedKey, intK k = true → k.hash w = k.hash w'
  | .num i, _ => rfl
  | .tup ks, h => by
    have := hash_ws (w := w) (w' := w') ks (by simpa only [intK] using h)
    simp only [NestedKey.hash, this]
  | .none, h => by simp [intK] at h
  | .text _, h => by simp [intK] at h
theorem hash_ws {w w' : World} : ∀ ks : List NestedKey, intKs ks = true → NestedKey.hashes w ks = NestedKey.hashes w' ks
  | [], _ => rfl
  | k :: ks, h => by
    simp only [intKs, Bool.and_eq_true] at h
    simp only [NestedKey.hashes, hash_w (w := w) (w' := w') k h.1, hash_ws (w := w) (w' := w') ks h.2]
end
mutual
/-- the value is the key -/
inductive KX (K : Fg) (H : Hp) : NestedKey → V → Prop
  | int (i : Int) : KX K H (.num i) (.int i)
  | tup {a : Addr} {xs : List V} {ks : List NestedKey} : SqT K H a xs → KXs K H ks xs → KX K H (.tup ks) (.ref a)
inductive KXs (K : Fg) (H : Hp) : List NestedKey → List V → Prop
  | nil : KXs K H [] []
  | cons {k : NestedKey} {v : V} {ks : List NestedKey} {vs : List V} : KX K H k v → KXs K H ks vs → KXs K H (k :: ks) (v :: vs)
end
section
variable {X : Cx} {pins : List (Addr × Obj)} {σ : L2.St} {H : Hp} {s : Shared}
mutual
theorem KX.is (I : Inv X pins σ H s) : ∀ (k : NestedKey) (v : V) (u : Value), KX X.K H k v → RelV v u → NestedIs s.heap k u
  | .num i, _, _, h, r => by
    cases h
    obtain ⟨t, rfl⟩ := r
    exact .int i t
  | .tup ks, _, _, h, r => by
    cases h with
    | tup hq hs =>
      cases r
      obtain ⟨its, rv, ⟨o, ho, hc, n, hd⟩, hz⟩ := I.tuple hq
      exact .tup ho hc hd (KXs.is I ks _ _ hs rv)
  | .none, _, _, h, _ => by cases h
  | .text _, _, _, h, _ => by cases h
theorem KXs.is (I : Inv X pins σ H s) : ∀ (ks : List NestedKey) (vs : List V) (us : List Value), KXs X.K H ks vs → Vals vs us → NestedAll s.heap ks us
  | [], _, _, h, r => by cases h; cases r; exact .nil
  | k :: ks, _, _, h, r => by
    cases h with
    | cons h1 h2 =>
      cases r with
      | cons r1 r2 => exact .cons (KX.is I k _ _ h1 r1) (KXs.is I ks _ _ h2 r2)
end
end
mutual
theorem KX.isI {K : Fg} {H : Hp} : ∀ (k : NestedKey) (v : V), KX K H k v → intK k = true
  | .num _, _, _ => rfl
  | .tup ks, _, h => by
    cases h with
    | tup _ hs => simp only [intK]; exact KXs.isI ks _ hs
  | .none, _, h => by cases h
  | .text _, _, h => by cases h
theorem KXs.isI {K : Fg} {H : Hp} : ∀ (ks : List NestedKey) (vs : List V), KXs K H ks vs → intKs ks = true
  | [], _, _ => rfl
  | k :: ks, _, h => by
    cases h with
    | cons h1 h2 => simp only [intKs, KX.isI k _ h1, KXs.isI ks _ h2, Bool.and_self]
end
mutual
theorem KX.to {K : Fg} {H H' : Hp} (ht : ∀ a xs, SqT K H a xs → SqT K H' a xs) : ∀ (k : NestedKey) (v : V), KX K H k v → KX K H' k v
  | .num i, _, h => by cases h; exact .int i
  | .tup ks, _, h => by
    cases h with
    | tup hq hs => exact .tup (ht _ _ hq) (KXs.to ht ks _ hs)
  | .none, _, h => by cases h
  | .text _, _, h => by cases h
theorem KXs.to {K : Fg} {H H' : Hp} (ht : ∀ a xs, SqT K H a xs → SqT K H' a xs) : ∀ (ks : List NestedKey) (vs : List V), KXs K H ks vs → KXs K H' ks vs
  | [], _, h => by cases h; exact .nil
  | k :: ks, _, h => by
    cases h with
    | cons h1 h2 => exact .cons (KX.to ht k _ h1) (KXs.to ht ks _ h2)
end
/-! ### the dict at a: its keys, where they stand, its values -/
abbrev Rows := List (NestedKey × Addr × V)
abbrev RowsV := List (NestedKey × Addr × Value)
def RowOf (p : NestedKey × Addr × V) (q : NestedKey × Addr × Value) : Prop := p.1 = q.1 ∧ p.2.1 = q.2.1 ∧ RelV p.2.2 q.2.2
structure DicP (h : Heap) (a : Addr) (L : Rows) : Prop where
  ex : ∃ (o : Obj) (es : Array DictEntry) (ep : Nat) (xs : RowsV), h.get? a = some o ∧ o.ExactDict ∧ o.data = .dict es ep ∧ Paired RowOf L xs ∧ ∀ (P : Program) (w : World), es.toList = xs.map (entryOfKey (nestedKind P w))
  sz : L.length ≤ sizeLine
  ns : (a == sysModules) = false
  nd : (L.map (·.1)).Nodup
def DicN (a : Addr) (L : Rows) : HO := .ext fun h => DicP h a L
theorem dicN_new {P : Program} {w : World} {H : Hp} {h : Heap} {a : Addr} {L : Rows} (R : DicP h a L) : ObjOk P w H h a (DicN a L) := by
  have ⟨o, es, ep, xs, ho, q⟩ := R.ex
  refine ⟨R, ⟨o, ho⟩, fun h1 h2 p k => ?_⟩
  have ⟨o', es', ep', xs', ho', q'⟩ := DicP.ex p
  exact ⟨⟨o', es', ep', xs', k o' ho', q'⟩, p.sz, p.ns, p.nd⟩
/-- the keys stand where they are told -/
def KeysAt (K : Fg) (H : Hp) (L : Rows) : Prop := ∀ x ∈ L, KX K H x.1 (.ref x.2.1) ∧ x.1.depth ≤ 8
theorem row_keys : ∀ {L : Rows} {xs : RowsV}, Paired RowOf L xs → L.map (·.1) = xs.map (·.1)
  | [], [], .nil => rfl
  | _ :: _, _ :: _, .cons h t => by rw [List.map_cons, List.map_cons, row_keys t, h.1]
theorem row_mem : ∀ {L : Rows} {xs : RowsV}, Paired RowOf L xs → ∀ q ∈ xs, ∃ p ∈ L, RowOf p q
  | [], [], .nil, q, hq => by cases hq
  | p :: _, q' :: _, .cons h t, q, hq => by
    rcases List.mem_cons.mp hq with e | e
    · exact ⟨p, List.mem_cons_self, e ▸ h⟩
    · obtain ⟨p', hp, r⟩ := row_mem t q e
      exact ⟨p', List.mem_cons_of_mem _ hp, r⟩
def lookN (L : Rows) (k : NestedKey) : Option V := (L.find? fun x => decide (x.1 = k)).map (·.2.2)
theorem row_look : ∀ {L : Rows} {xs : RowsV} (k : NestedKey), Paired RowOf L xs → RelO (lookN L k) ((atKey xs k).map (·.2))
  | [], [], k, .nil => by unfold lookN atKey; simp [RelO]
  | p :: L, q :: xs, k, .cons h t => by
    have ih := row_look k t
    unfold lookN atKey at ih ⊢
    rw [List.find?_cons, List.find?_cons]
    by_cases e : p.1 = k
    · have e' : q.1 = k := h.1 ▸ e
      simp only [e, e', decide_true]
      exact h.2.2
    · have e' : ¬ q.1 = k := fun z => e (h.1.trans z)
      simp only [e, e', decide_false]
      exact ih
section
variable {X : Cx} {pins : List (Addr × Obj)} {σ : L2.St} {H : Hp} {s : Shared} {a b : Addr} {L : Rows} {k : NestedKey} {A : Around} {E : Value → Shared → Prop}
theorem dicP_rd (I : Inv X pins σ H s) (e : Rd H a (DicN a L)) : DicP s.heap a L := (rd_of I.hok e).1
theorem dic_full (I : Inv X pins σ H s) (e : Rd H a (DicN a L)) (hk : KeysAt X.K H L) : ∃ xs : RowsV, Paired RowOf L xs ∧ s.heap.DictOfH (nestedKind X.prog X.w) a xs ∧ L.length ≤ sizeLine ∧ (a == sysModules) = false := by
  have R := dicP_rd I e
  obtain ⟨o, es, ep, xs, ho, h1, h2, h3, h4⟩ := R.ex
  refine ⟨xs, h3, ⟨o, es, ep, ho, h1, h2, h4 _ _, fun q hq => ?_, by rw [← row_keys h3]; exact R.nd⟩, R.sz, R.ns⟩
  obtain ⟨p, hp, r1, r2, _⟩ := row_mem h3 q hq
  obtain ⟨k1, k2⟩ := hk p hp
  rw [← r1, ← r2]
  exact ⟨KX.is I _ _ _ k1 rfl, k2⟩
/-- d[k] -/
theorem n_get {v : V} {Q : Value → Shared → Prop} (hu : (nestedKind X.prog X.w).room A.in1) (I : Inv X pins σ H s) (e : Rd H a (DicN a L)) (hk : KeysAt X.K H L) (kx : KX X.K H k (.ref b)) (hd : k.depth ≤ 8) (l : lookN L k = some v)
    (h : ∀ u s', Inv X pins σ H s' → RelV v u → Q u s') : wpAny (model X.prog X.w) A (getItem (.ref a) (.ref b)) Q E s := by
  obtain ⟨xs, rel, dd, _, _⟩ := dic_full I e hk
  obtain ⟨u, hu', ru⟩ := RelO.some_of (v := v) (o := (atKey xs k).map (·.2)) (by rw [← l]; exact row_look k rel)
  obtain ⟨p, hp, hp2⟩ := Option.map_eq_some_iff.mp hu'
  refine wpAny_getItem_heap hu ⟨KX.is I _ _ _ kx rfl, hd⟩ dd hp ?_
  rw [hp2]
  exact h u _ (I.tok _) ru
/-- k in d -/
theorem n_in {Q : Value → Shared → Prop} (hu : (nestedKind X.prog X.w).room A.in1) (I : Inv X pins σ H s) (e : Rd H a (DicN a L)) (hk : KeysAt X.K H L) (kx : KX X.K H k (.ref b)) (hd : k.depth ≤ 8)
    (h : ∀ s', Inv X pins σ H s' → Q (.bool (lookN L k).isSome) s') : wpAny (model X.prog X.w) A (compareOp .In (.ref b) (.ref a)) Q E s := by
  obtain ⟨xs, rel, dd, _, ns⟩ := dic_full I e hk
  refine wpAny_in_heap hu ⟨KX.is I _ _ _ kx rfl, hd⟩ ns dd ?_
  have q := (row_look k rel).isSome_eq
  rw [Option.isSome_map] at q
  rw [← q]
  exact h _ (I.tok _)
theorem n_notIn {Q : Value → Shared → Prop} (hu : (nestedKind X.prog X.w).room A.in1) (I : Inv X pins σ H s) (e : Rd H a (DicN a L)) (hk : KeysAt X.K H L) (kx : KX X.K H k (.ref b)) (hd : k.depth ≤ 8)
    (h : ∀ s', Inv X pins σ H s' → Q (.bool (!(lookN L k).isSome)) s') : wpAny (model X.prog X.w) A (compareOp .NotIn (.ref b) (.ref a)) Q E s := by
  obtain ⟨xs, rel, dd, _, ns⟩ := dic_full I e hk
  refine wpAny_notIn_heap hu ⟨KX.is I _ _ _ kx rfl, hd⟩ ns dd ?_
  have q := (row_look k rel).isSome_eq
  rw [Option.isSome_map] at q
  rw [← q]
  exact h _ (I.tok _)
/-- a row put in: an old key keeps its place and its tuple -/
def putN (L : Rows) (k : NestedKey) (b : Addr) (v : V) : Rows := if (lookN L k).isSome then L.map fun x => if x.1 = k then (x.1, x.2.1, v) else x else L ++ [(k, b, v)]
theorem row_repl {v : V} {r : Value} (rv : RelV v r) : ∀ {L : Rows} {xs : RowsV}, Paired RowOf L xs → Paired RowOf (L.map fun x => if x.1 = k then (x.1, x.2.1, v) else x) (xs.map (putAt k r))
  | [], [], .nil => .nil
  | p :: L, q :: xs, .cons h t => by
    rw [List.map_cons, List.map_cons]
    refine .cons ?_ (row_repl rv t)
    unfold putAt
    by_cases e : p.1 = k
    · rw [if_pos e, if_pos (h.1 ▸ e)]
      exact ⟨h.1, h.2.1, rv⟩
    · rw [if_neg e, if_neg (fun z => e (h.1.trans z))]
      exact h
theorem row_put {v : V} {r : Value} {xs : RowsV} (rv : RelV v r) (rel : Paired RowOf L xs) : Paired RowOf (putN L k b v) (storedH xs k b r) := by
  have q := (row_look k rel).isSome_eq
  rw [Option.isSome_map] at q
  unfold putN storedH
  by_cases e : (lookN L k).isSome = true
  · rw [if_pos e, if_pos (q ▸ e)]
    exact row_repl rv rel
  · rw [if_neg e, if_neg (fun z => e (q ▸ z))]
    exact rel.snoc ⟨rfl, rfl, rv⟩
theorem putN_len (v : V) : (putN L k b v).length ≤ L.length + 1 := by
  unfold putN
  split
  · rw [List.length_map]; omega
  · rw [List.length_append]; exact Nat.le_refl _
theorem keys_put {K : Fg} {v : V} (hk : KeysAt K H L) (kx : KX K H k (.ref b)) (hd : k.depth ≤ 8) : KeysAt K H (putN L k b v) := by
  intro x hx
  unfold putN at hx
  split at hx
  · obtain ⟨y, hy, rfl⟩ := List.mem_map.mp hx
    split
    · exact hk y hy
    · exact hk y hy
  · rcases List.mem_append.mp hx with hx | hx
    · exact hk x hx
    · rw [List.mem_singleton.mp hx]; exact ⟨kx, hd⟩
/-- d[k] = v -/
theorem n_put {v : V} {r : Value} {Q : Unit → Shared → Prop} (hu : (nestedKind X.prog X.w).room A.in1) (I : Inv X pins σ H s) (e : H a = some (DicN a L)) (hk : KeysAt X.K H L) (kx : KX X.K H k (.ref b)) (hd : k.depth ≤ 8) (hl : L.length < sizeLine) (rv : RelV v r)
    (h : ∀ s', Inv X pins σ (upd H a (DicN a (putN L k b v))) s' → Q () s') : wpAny (model X.prog X.w) A (setItem (.ref a) (.ref b) r) Q E s := by
  obtain ⟨xs, rel, dd, hz, ns⟩ := dic_full I (.inl e) hk
  refine wpAny_setItem_heap (hsz := by rw [← Paired.length rel]; exact hz) hu ⟨KX.is I _ _ _ kx rfl, hd⟩ dd fun h' dd' hs => h _ ?_
  obtain ⟨o, es, ep, ho, h1, h2, h3, h4, h5⟩ := dd'
  have rel' := row_put (k := k) (b := b) rv rel
  have allI : ∀ q ∈ storedH xs k b r, intK q.1 = true := fun q hq => by
    obtain ⟨p, hp, e1, _⟩ := row_mem rel' q hq
    rw [← e1]
    exact KX.isI _ _ (keys_put hk kx hd p hp).1
  refine d_write I (by rw [e]; exact True.intro) hs ⟨o, ho⟩ (dicN_new ⟨⟨o, es, ep, _, ho, h1, h2, rel', fun P w => ?_⟩, ?_, ns, ?_⟩)
  · rw [h3]
    refine List.map_congr_left fun q hq => ?_
    show (⟨q.1.hash X.w, _, _⟩ : DictEntry) = ⟨q.1.hash w, _, _⟩
    rw [hash_w (w := X.w) (w' := w) q.1 (allI q hq)]
  · have := putN_len (L := L) (k := k) (b := b) v
    omega
  · rw [row_keys rel']; exact h5
end
/-! ### as written -/
def tNGet (K : Fg) (td ty : TE) : TE := fun σ H Q => td σ H fun x H1 => ty σ H1 fun y H2 => ∃ (a b : Addr) (L : Rows) (k : NestedKey) (v : V), x = .ref a ∧ y = .ref b ∧ Rd H2 a (DicN a L) ∧ KeysAt K H2 L ∧ KX K H2 k (.ref b) ∧ k.depth ≤ 8 ∧ lookN L k = some v ∧ Q v H2
def tNIn (K : Fg) (n : Bool) (ty td : TE) : TE := fun σ H Q => ty σ H fun y H1 => td σ H1 fun x H2 => ∃ (a b : Addr) (L : Rows) (k : NestedKey), x = .ref a ∧ y = .ref b ∧ Rd H2 a (DicN a L) ∧ KeysAt K H2 L ∧ KX K H2 k (.ref b) ∧ k.depth ≤ 8 ∧ Q (.bl (if n then !(lookN L k).isSome else (lookN L k).isSome)) H2
def sNPut (K : Fg) (td ty tv : TE) : TS := fun D σ H => tv σ H fun v H1 => td σ H1 fun x H2 => ty σ H2 fun y H3 => ∃ (a b : Addr) (L : Rows) (k : NestedKey), x = .ref a ∧ y = .ref b ∧ H3 a = some (DicN a L) ∧ KeysAt K H3 L ∧ KX K H3 k (.ref b) ∧ k.depth ≤ 8 ∧ L.length < sizeLine ∧ ((∀ c L', H3 c = some (SetN c L') → c ≠ a) → D.nx σ (upd H3 a (DicN a (putN L k b v))))
def tNNew : TE := fun _ H Q => ∀ p, H p = none → Q (.ref p) (upd H p (DicN p []))
section
variable {X : Cx} {o i value : Expr} {pos pos' : Pos} {td ty tv : TE}
theorem n_room (hu : X.A.units + 9 < cLine) : (nestedKind X.prog X.w).room X.A.in1 := by
  show X.A.units + 1 + 8 < cLine
  omega
theorem dic_type {pins : List (Addr × Obj)} {σ : L2.St} {H : Hp} {s : Shared} {a : Addr} {L : Rows} (I : Inv X pins σ H s) (e : Rd H a (DicN a L)) : s.TypeIs (.ref a) "dict" := by
  obtain ⟨ob, es, ep, xs, ho, h1, _⟩ := (dicP_rd I e).ex
  exact ⟨ob, ho, h1.1⟩
theorem pe_nget (hu : X.A.units + 9 < cLine) (ho : PE X o td) (hi : PE X i ty) (hs : NoSl i) : PE X (.Subscript o i pos) (tNGet X.K td ty) := by
  refine ⟨fun pins s σ H Q I h => ?_⟩
  refine subD_of PySem.F.slot_dict_getitem.lookup hs (thn (ho.run pins s σ H _ I h) fun u s1 ⟨x, H1, I1, rx, q1⟩ => thn (hi.run pins s1 σ H1 _ I1 q1) fun iv s2 ⟨y, H2, I2, ry, a, b, L, k, v, ex, ey, e, hk, kx, hd, l, q2⟩ => ?_)
  subst ex ey
  obtain rfl : u = Value.ref a := rx
  obtain rfl : iv = Value.ref b := ry
  exact ⟨dic_type I2 e, n_get (n_room hu) I2 e hk kx hd l fun w' s3 I3 rw' => ⟨v, H2, I3, rw', q2⟩⟩
theorem pc_nin (hu : X.A.units + 9 < cLine) (hi : PE X i ty) (ho : PE X o td) : PC X .In i o (tNIn X.K false ty td) := by
  refine ⟨fun pins s σ H Q I h => ?_⟩
  refine thn (hi.run pins s σ H _ I h) fun iv s1 ⟨y, H1, I1, ry, q1⟩ => thn (ho.run pins s1 σ H1 _ I1 q1) fun u s2 ⟨x, H2, I2, rx, a, b, L, k, ex, ey, e, hk, kx, hd, q2⟩ => ?_
  subst ex ey
  obtain rfl : u = Value.ref a := rx
  obtain rfl : iv = Value.ref b := ry
  exact n_in (n_room hu) I2 e hk kx hd fun s3 I3 => ⟨.bl _, H2, I3, rfl, q2⟩
theorem pc_nnotin (hu : X.A.units + 9 < cLine) (hi : PE X i ty) (ho : PE X o td) : PC X .NotIn i o (tNIn X.K true ty td) := by
  refine ⟨fun pins s σ H Q I h => ?_⟩
  refine thn (hi.run pins s σ H _ I h) fun iv s1 ⟨y, H1, I1, ry, q1⟩ => thn (ho.run pins s1 σ H1 _ I1 q1) fun u s2 ⟨x, H2, I2, rx, a, b, L, k, ex, ey, e, hk, kx, hd, q2⟩ => ?_
  subst ex ey
  obtain rfl : u = Value.ref a := rx
  obtain rfl : iv = Value.ref b := ry
  exact n_notIn (n_room hu) I2 e hk kx hd fun s3 I3 => ⟨.bl _, H2, I3, rfl, q2⟩
theorem ps_nput (hu : X.A.units + 9 < cLine) (ho : PE X o td) (hi : PE X i ty) (hv : PE X value tv) (hs : swapsWith value (some (.Subscript o i pos')) pos.line X.env = pure false) : PS X (.Assign [.Subscript o i pos'] value pos) (sNPut X.K td ty tv) := by
  refine ⟨fun pins s σ H D I h => ?_⟩
  refine wpAny_Assign_Subscript (thn (hv.run pins s σ H _ I h) fun r s1 ⟨v, H1, I1, rv, q1⟩ => thn (ho.run pins s1 σ H1 _ I1 q1) fun u s2 ⟨x, H2, I2, rx, q2⟩ => thn (hi.run pins s2 σ H2 _ I2 q2) fun iv s3 ⟨y, H3, I3, ry, a, b, L, k, ex, ey, e, hk, kx, hd, hl, q3⟩ => ?_) hs
  subst ex ey
  obtain rfl : u = Value.ref a := rx
  obtain rfl : iv = Value.ref b := ry
  have apart : ∀ c L', H3 c = some (SetN c L') → c ≠ a := fun c L' hc q => by
    subst q
    rw [e] at hc
    have h1 := dicP_rd I3 (.inl e)
    have h2 : SetP s3.heap c L' := (rd_of I3.hok (.inl (e.trans hc)) : ObjOk X.prog X.w H3 s3.heap c (SetN c L')).1
    obtain ⟨o1, _, _, _, g1, _, g2, _⟩ := h1.ex
    obtain ⟨_, _, _, ⟨o2, g3, _, g4⟩, _⟩ := h2.ex
    rw [g1] at g3; cases g3
    rw [g2] at g4; cases g4
  exact n_put (n_room hu) I3 e hk kx hd hl rv fun s4 I4 => ⟨σ, _, I4, q3 apart⟩
theorem pe_nnew : PE X (.Dict [] [] pos) tNNew := ⟨fun pins s σ H Q I h =>
  wpAny_Dict_empty ⟨.ref s.heap.objs.size, _, I.laid (a := s.heap.objs.size) (o := DicN s.heap.objs.size []) (t' := s.toks) (fun _ _ q => Heap.get?_push_of_some _ q) (Nat.le_refl _)
    (dicN_new ⟨⟨_, #[], 0, [], Heap.get?_push_size _ rfl, ⟨rfl, rfl, rfl⟩, rfl, .nil, fun _ _ => rfl⟩, Nat.zero_le _, beq_eq_false_iff_ne.mpr (Ne.symm (Nat.ne_of_lt I.big)), List.nodup_nil⟩), rfl, h _ (I.hok.fresh (Nat.le_refl _))⟩⟩
end
end DD

/-! # Data for what a def reckons: plain data in the place of values and heaps -/
namespace DD
open PySem L2

abbrev D := PyData

/-- a tuple that is known to its object (so that it has no dict of its own), or one of the written part -/
def TupX (K : Fg) (H : Hp) (a : Addr) (xs : List V) : Prop :=
  (∃ o : Obj, H a = some (.frz o (.tup xs)) ∧ o.cls = .type "tuple" ∧ o.dict = none) ∨
    ∃ (o : Obj) (its : Array Value) (n : Nat), K.lookup a = some o ∧ o.cls = .type "tuple" ∧ o.dict = none ∧ o.data = .seq its n ∧ its.size ≤ sizeLine ∧ Vals xs its.toList
theorem TupX.sqt {K : Fg} {H : Hp} {a : Addr} {xs : List V} (h : TupX K H a xs) : SqT K H a xs := by
  rcases h with ⟨o, h, _⟩ | ⟨o, its, n, h1, h2, _, h3, h4, h5⟩
  · exact .inl (.inr ⟨o, h⟩)
  · exact .inr ⟨o, its, n, h1, h2, h3, h4, h5⟩
theorem TupX.to {K : Fg} {H H' : Hp} {a : Addr} {xs : List V} (h : TupX K H a xs) (k : ∀ o u, H a = some (.frz o u) → H' a = some (.frz o u)) : TupX K H' a xs := by
  rcases h with ⟨o, h, q⟩ | h
  · exact .inl ⟨o, k o _ h, q⟩
  · exact .inr h
/-- a list that stands where B allows it, or one of the written part -/
def LX (K : Fg) (B : Addr → Prop) (H : Hp) (a : Addr) (xs : List V) : Prop := (B a ∧ Rd H a (.lst xs)) ∨
  ∃ (o : Obj) (its : Array Value) (n : Nat), K.lookup a = some o ∧ o.cls = .type "list" ∧ o.dict = none ∧ o.data = .seq its n ∧ its.size ≤ sizeLine ∧ Vals xs its.toList
theorem LX.sql {K : Fg} {B : Addr → Prop} {H : Hp} {a : Addr} {xs : List V} (h : LX K B H a xs) : SqL K H a xs := h.elim (fun q => .inl q.2) .inr
theorem LX.to {K : Fg} {B B' : Addr → Prop} {H H' : Hp} {a : Addr} {xs : List V} (h : LX K B H a xs) (k : B a → Rd H a (.lst xs) → B' a ∧ Rd H' a (.lst xs)) : LX K B' H' a xs := h.elim (fun q => .inl (k q.1 q.2)) .inr
/-! ### flat data at a value -/
mutual
inductive FX (K : Fg) (H : Hp) : V → D → Prop
  | non : FX K H .non .none
  | bl (b : Bool) : FX K H (.bl b) (.bool b)
  | int (i : Int) : FX K H (.int i) (.int i)
  | str {x : Str} : (PyData.str x).canLay0 = true → FX K H (.str x) (.str x)
  | tup {a : Addr} {xs : List V} {ds : List D} : TupX K H a xs → FXs K H xs ds → FX K H (.ref a) (.tuple ds)
inductive FXs (K : Fg) (H : Hp) : List V → List D → Prop
  | nil : FXs K H [] []
  | cons {v : V} {vs : List V} {d : D} {ds : List D} : FX K H v d → FXs K H vs ds → FXs K H (v :: vs) (d :: ds)
end
mutual
theorem FX.to {K : Fg} {H H' : Hp} (ht : ∀ a xs, TupX K H a xs → TupX K H' a xs) : ∀ (d : D) (v : V), FX K H v d → FX K H' v d
  | .none, _, h => by cases h; exact .non
  | .bool b, _, h => by cases h; exact .bl b
  | .int i, _, h => by cases h; exact .int i
  | .str x, _, h => by cases h with | str q => exact .str q
  | .list ds, _, h => by cases h
  | .tuple ds, _, h => by
    cases h with
    | tup hr ha => exact .tup (ht _ _ hr) (FXs.to ht ds _ ha)
  | .dict _, _, h => by cases h
theorem FXs.to {K : Fg} {H H' : Hp} (ht : ∀ a xs, TupX K H a xs → TupX K H' a xs) : ∀ (ds : List D) (vs : List V), FXs K H vs ds → FXs K H' vs ds
  | [], _, h => by cases h; exact .nil
  | d :: ds, _, h => by
    cases h with
    | cons h1 h2 => exact .cons (FX.to ht d _ h1) (FXs.to ht ds _ h2)
end
mutual
/-- data as a key -/
def keyN : D → Option NestedKey
  | .int i => some (.num i)
  | .tuple ds => (keyNs ds).map .tup
  | .none => none
  | .bool _ => none
  | .str _ => none
  | .list _ => none
  | .dict _ => none
def keyNs : List D → Option (List NestedKey)
  | [] => some []
  | d :: ds => (keyN d).bind fun k => (keyNs ds).map (k :: ·)
end
theorem opt_mapN {α β : Type} {f : α → β} {o : Option α} {b : β} (h : o.map f = some b) : ∃ a, o = some a ∧ f a = b := by
  cases o with
  | none => cases h
  | some a => exact ⟨a, rfl, Option.some.inj h⟩
mutual
theorem FX.kx {K : Fg} {H : Hp} : ∀ (d : D) (v : V) (k : NestedKey), keyN d = some k → FX K H v d → KX K H k v
  | .int i, _, k, e, h => by
    cases h
    simp only [keyN] at e
    cases e
    exact .int i
  | .tuple ds, _, k, e, h => by
    cases h with
    | tup hr ha =>
      simp only [keyN] at e
      obtain ⟨ks, e1, rfl⟩ := opt_mapN e
      exact .tup hr.sqt (FXs.kx ds _ ks e1 ha)
  | .none, _, k, e, _ => by simp [keyN] at e
  | .bool _, _, k, e, _ => by simp [keyN] at e
  | .str _, _, k, e, _ => by simp [keyN] at e
  | .list _, _, k, e, _ => by simp [keyN] at e
  | .dict _, _, k, e, _ => by simp [keyN] at e
theorem FXs.kx {K : Fg} {H : Hp} : ∀ (ds : List D) (vs : List V) (ks : List NestedKey), keyNs ds = some ks → FXs K H vs ds → KXs K H ks vs
  | [], _, ks, e, h => by
    cases h
    simp only [keyNs] at e
    cases e
    exact .nil
  | d :: ds, _, ks, e, h => by
    cases h with
    | cons h1 h2 =>
      simp only [keyNs] at e
      cases ek : keyN d with
      | none => rw [ek] at e; cases e
      | some k =>
        rw [ek] at e
        obtain ⟨ks', e2, rfl⟩ := opt_mapN e
        exact .cons (FX.kx d _ k ek h1) (FXs.kx ds _ ks' e2 h2)
end
/-- a row of a dict: its key, where this stands, its value -/
def RowD (K : Fg) (H : Hp) (p : NestedKey × Addr × V) (q : D × D) : Prop := keyN q.1 = some p.1 ∧ p.1.depth ≤ 8 ∧ FX K H (.ref p.2.1) q.1 ∧ FX K H p.2.2 q.2
theorem RowD.to {K : Fg} {H H' : Hp} {p : NestedKey × Addr × V} {q : D × D} (ht : ∀ a xs, TupX K H a xs → TupX K H' a xs) (h : RowD K H p q) : RowD K H' p q := ⟨h.1, h.2.1, FX.to ht _ _ h.2.2.1, FX.to ht _ _ h.2.2.2⟩
theorem rows_to {K : Fg} {H H' : Hp} {L : Rows} {kvs : List (D × D)} (ht : ∀ a xs, TupX K H a xs → TupX K H' a xs) (h : Paired (RowD K H) L kvs) : Paired (RowD K H') L kvs := L2.Paired.mapP h fun _ _ z => z.to ht
/-- what may change: a list, a dict -/
inductive Mu (a : Addr) : HO → Prop
  | lst (xs : List V) : Mu a (.lst xs)
  | dic (L : Rows) : Mu a (DicN a L)
/-- no dict within -/
def plainD : D → Bool
  | .none => true
  | .bool _ => true
  | .int _ => true
  | .str _ => true
  | .list xs => go xs
  | .dict _ => false
  | .tuple xs => go xs
where go : List D → Bool
  | [] => true
  | x :: xs => plainD x && go xs
/-- the tables of the defs that make lambdas (with the lambdas' name), or generators; the own exception classes: name, place, fields -/
class LTb where
  T : List (Addr × Str)
  G : List Addr
  E : List (Str × Addr × List Str) := []
/-- what an object of a class is made of: an exception, its dict, an instance -/
inductive Xo (a : Addr) : HO → Prop
  | exo (C : Addr) (d : Option Addr) : Xo a (L2.exo a C d)
  | xd (fs : List (Str × V)) : Xo a (.xd fs)
  | ins (C dx : Addr) (fs : List (Str × V)) : Xo a (.ins C dx fs)
/-- an object of the class at C with these fields -/
def ObX (H : Hp) (a C : Addr) (fs : List (Str × V)) : Prop :=
  (∃ dd, H a = some (exo a C (some dd)) ∧ H dd = some (.xd fs)) ∨ (fs = [] ∧ H a = some (exo a C none))
theorem ObX.to {H H' : Hp} {a C : Addr} {fs : List (Str × V)} (h : ObX H a C fs) (k : ∀ b o, Xo b o → H b = some o → H' b = some o) : ObX H' a C fs := by
  rcases h with ⟨dd, h1, h2⟩ | ⟨h1, h2⟩
  · exact .inl ⟨dd, k _ _ (.exo _ _) h1, k _ _ (.xd _) h2⟩
  · exact .inr ⟨h1, k _ _ (.exo _ _) h2⟩
/-- it as a datum: the name of its class, the names of its fields, what they hold -/
abbrev objD (c : Str) (ns : List Str) (ds : List D) : D := .dict [(.dict [], .str c), (.list (ns.map .str), .list ds)]
/-- the fields as the stores leave them, the last one first -/
def fieldsOf (ns : List Str) (vs : List V) : List (Str × V) := (ns.zip vs).reverse
variable [LTb]
/-! ### data at a value: B tells where lists may stand -/
mutual
inductive R (K : Fg) (B : Addr → Prop) (H : Hp) : V → D → Prop
  | non : R K B H .non .none
  | bl (b : Bool) : R K B H (.bl b) (.bool b)
  | int (i : Int) : R K B H (.int i) (.int i)
  | str {x : Str} : (PyData.str x).canLay0 = true → R K B H (.str x) (.str x)
  | lst {a : Addr} {xs : List V} {ds : List D} : LX K B H a xs → RA K B H xs ds → R K B H (.ref a) (.list ds)
  | tup {a : Addr} {xs : List V} {ds : List D} : TupX K H a xs → RA K B H xs ds → R K B H (.ref a) (.tuple ds)
  | dic {a : Addr} {L : Rows} {kvs : List (D × D)} : B a → Rd H a (DicN a L) → Paired (RowD K H) L kvs → R K B H (.ref a) (.dict kvs)
  | obj {a C : Addr} {c : Str} {ns : List Str} {vs : List V} {ds : List D} : (c, C, ns) ∈ LTb.E → ObX H a C (fieldsOf ns vs) → ns.length = vs.length → RA K B H vs ds → R K B H (.ref a) (objD c ns ds)
inductive RA (K : Fg) (B : Addr → Prop) (H : Hp) : List V → List D → Prop
  | nil : RA K B H [] []
  | cons {v : V} {vs : List V} {d : D} {ds : List D} : R K B H v d → RA K B H vs ds → RA K B H (v :: vs) (d :: ds)
end
section
variable {K : Fg} {B B' : Addr → Prop} {H H' : Hp}
mutual
theorem R.to (hl : ∀ a u, Mu a u → B a → Rd H a u → B' a ∧ Rd H' a u) (ht : ∀ a xs, TupX K H a xs → TupX K H' a xs) (hx : ∀ a o, Xo a o → H a = some o → H' a = some o) : ∀ (d : D) (v : V), R K B H v d → R K B' H' v d
  | .none, _, h => by cases h; exact .non
  | .bool b, _, h => by cases h; exact .bl b
  | .int i, _, h => by cases h; exact .int i
  | .str x, _, h => by cases h with | str q => exact .str q
  | .list ds, _, h => by
    cases h with
    | lst hr ha => exact .lst (hr.to (hl _ _ (.lst _))) (RA.to hl ht hx ds _ ha)
  | .tuple ds, _, h => by
    cases h with
    | tup hr ha => exact .tup (ht _ _ hr) (RA.to hl ht hx ds _ ha)
  | .dict kvs, _, h => by
    have key : ∀ ds : List D, sizeOf ds < sizeOf kvs → ∀ vs, RA K B H vs ds → RA K B' H' vs ds := fun ds _ vs h => RA.to hl ht hx ds vs h
    cases h with
    | dic hb hr hp => exact .dic (hl _ _ (.dic _) hb hr).1 (hl _ _ (.dic _) hb hr).2 (rows_to ht hp)
    | obj h1 h2 h3 h4 => exact .obj h1 (h2.to hx) h3 (key _ (by simp only [List.cons.sizeOf_spec, Prod.mk.sizeOf_spec, PyData.list.sizeOf_spec]; omega) _ h4)
  termination_by d => sizeOf d
  decreasing_by all_goals simp_wf <;> omega
theorem RA.to (hl : ∀ a u, Mu a u → B a → Rd H a u → B' a ∧ Rd H' a u) (ht : ∀ a xs, TupX K H a xs → TupX K H' a xs) (hx : ∀ a o, Xo a o → H a = some o → H' a = some o) : ∀ (ds : List D) (vs : List V), RA K B H vs ds → RA K B' H' vs ds
  | [], _, h => by cases h; exact .nil
  | d :: ds, _, h => by
    cases h with
    | cons h1 h2 => exact .cons (R.to hl ht hx d _ h1) (RA.to hl ht hx ds _ h2)
  termination_by ds => sizeOf ds
  decreasing_by all_goals simp_wf <;> omega
end
mutual
theorem R.dp : ∀ (d : D) (v : V), plainD d = true → R K B H v d → Dp K H v d
  | .none, _, _, h => by cases h; exact .non
  | .bool b, _, _, h => by cases h; exact .bl b
  | .int i, _, _, h => by cases h; exact .int i
  | .str x, _, _, h => by cases h with | str q => exact .str x
  | .list ds, _, p, h => by
    cases h with
    | lst hr ha => exact .lst hr.sql (RA.dp ds _ (by simpa only [plainD] using p) ha)
  | .tuple ds, _, p, h => by
    cases h with
    | tup hr ha => exact .tup hr.sqt (RA.dp ds _ (by simpa only [plainD] using p) ha)
  | .dict _, _, p, h => by simp [plainD] at p
theorem RA.dp : ∀ (ds : List D) (vs : List V), plainD.go ds = true → RA K B H vs ds → DpAll K H vs ds
  | [], _, _, h => by cases h; exact .nil
  | d :: ds, _, p, h => by
    cases h with
    | cons h1 h2 =>
      have p' : plainD d = true ∧ plainD.go ds = true := by simpa only [plainD.go, Bool.and_eq_true] using p
      exact .cons (R.dp d _ p'.1 h1) (RA.dp ds _ p'.2 h2)
end
mutual
theorem R.lay : ∀ (d : D) (v : V), plainD d = true → R K B H v d → d.canLay0 = true
  | .none, _, _, _ => by simp [PyData.canLay0]
  | .bool b, _, _, _ => by simp [PyData.canLay0]
  | .int i, _, _, _ => by simp [PyData.canLay0]
  | .str x, _, _, h => by cases h with | str q => exact q
  | .list ds, _, p, h => by
    cases h with
    | lst hr ha => simp only [PyData.canLay0]; exact RA.lay ds _ (by simpa only [plainD] using p) ha
  | .tuple ds, _, p, h => by
    cases h with
    | tup hr ha => simp only [PyData.canLay0]; exact RA.lay ds _ (by simpa only [plainD] using p) ha
  | .dict _, _, p, h => by simp [plainD] at p
theorem RA.lay : ∀ (ds : List D) (vs : List V), plainD.go ds = true → RA K B H vs ds → PyData.canLayAll0 ds = true
  | [], _, _, _ => by simp [PyData.canLayAll0]
  | d :: ds, _, p, h => by
    cases h with
    | cons h1 h2 =>
      have p' : plainD d = true ∧ plainD.go ds = true := by simpa only [plainD.go, Bool.and_eq_true] using p
      simp only [PyData.canLayAll0, R.lay d _ p'.1 h1, RA.lay ds _ p'.2 h2, Bool.and_self]
end
/-- no list within -/
def flatD : D → Bool
  | .none => true
  | .bool _ => true
  | .int _ => true
  | .str _ => true
  | .list _ => false
  | .dict _ => false
  | .tuple xs => go xs
where go : List D → Bool
  | [] => true
  | x :: xs => flatD x && go xs
mutual
theorem R.flat : ∀ (d : D) (v : V), flatD d = true → R K B H v d → R K B' H v d
  | .none, _, _, h => by cases h; exact .non
  | .bool b, _, _, h => by cases h; exact .bl b
  | .int i, _, _, h => by cases h; exact .int i
  | .str x, _, _, h => by cases h with | str q => exact .str q
  | .list ds, _, f, h => by simp [flatD] at f
  | .tuple ds, _, f, h => by
    cases h with
    | tup hr ha => exact .tup hr (RA.flat ds _ (by simpa only [flatD] using f) ha)
  | .dict _, _, f, h => by simp [flatD] at f
theorem RA.flat : ∀ (ds : List D) (vs : List V), flatD.go ds = true → RA K B H vs ds → RA K B' H vs ds
  | [], _, _, h => by cases h; exact .nil
  | d :: ds, _, f, h => by
    cases h with
    | cons h1 h2 =>
      have f' : flatD d = true ∧ flatD.go ds = true := by simpa only [flatD.go, Bool.and_eq_true] using f
      exact .cons (R.flat d _ f'.1 h1) (RA.flat ds _ f'.2 h2)
end
end
/-! ### the tables of code objects -/
def TabOk (H : Hp) : Prop := LamX.Tabs LTb.T H ∧ ∀ P ∈ LTb.G, GxR.TabG H P
def NT (o : HO) : Prop := ∀ ps, o ≠ .tbl ps
theorem nt_lst {xs : List V} : NT (.lst xs) := fun _ h => by cases h
theorem nt_frz {o : Obj} {u : HO} : NT (.frz o u) := fun _ h => by cases h
theorem nt_xd {fs : List (Str × V)} : NT (.xd fs) := fun _ h => by cases h
theorem nt_ins {C dx : Addr} {fs : List (Str × V)} : NT (.ins C dx fs) := fun _ h => by cases h
theorem nt_own {x : Addr} : NT (.own x) := fun _ h => by cases h
theorem nt_ext {φ : Heap → Prop} : NT (.ext φ) := fun _ h => by cases h
theorem nt_set {a : Addr} {L : List (Addr × List Int)} : NT (SetN a L) := nt_ext
theorem nt_dic {a : Addr} {L : Rows} : NT (DicN a L) := nt_ext
theorem Xo.nt {a : Addr} {o : HO} (h : Xo a o) : NT o := by
  cases h with
  | exo C d => exact nt_ext
  | xd fs => exact nt_xd
  | ins C dx fs => exact nt_ins
theorem Mu.nt {a : Addr} {u : HO} (h : Mu a u) : NT u := by
  cases h with
  | lst xs => exact nt_lst
  | dic L => exact nt_dic
/-- what was tracked stands as before, but for the tables, which grow -/
structure Ex (H H' : Hp) : Prop where
  at_ : ∀ a o, H a = some o → (n : NT o := by first | exact nt_lst | exact nt_frz | exact nt_xd | exact nt_set | exact nt_dic | exact nt_ins | exact nt_own | exact Mu.nt (by assumption) | assumption) → H' a = some o
  hv : ∀ a, H a ≠ none → H' a ≠ none
  tb : TabOk H → TabOk H'
instance {H H' : Hp} : CoeFun (Ex H H') fun _ => ∀ a o, H a = some o → (n : NT o := by first | exact nt_lst | exact nt_frz | exact nt_xd | exact nt_set | exact nt_dic | exact nt_ins | exact nt_own | exact Mu.nt (by assumption) | assumption) → H' a = some o := ⟨@Ex.at_ _ H H'⟩
theorem TabOk.full {H H' : Hp} (e : ∀ a o, H a = some o → H' a = some o) (t : TabOk H) : TabOk H' := ⟨LamX.Tabs.ext t.1 e, fun P hP => let ⟨ps, h1, h2⟩ := t.2 P hP; ⟨ps, e _ _ h1, h2⟩⟩
theorem Ex.full {H H' : Hp} (e : ∀ a o, H a = some o → H' a = some o) : Ex H H' := ⟨fun a o h _ => e a o h, fun a h w => (by
  cases q : H a with
  | none => exact h q
  | some o => rw [e a o q] at w; cases w), fun t => TabOk.full e t⟩
theorem Ex.refl (H : Hp) : Ex H H := .full fun _ _ h => h
theorem Ex.trans {H H1 H2 : Hp} (a : Ex H H1) (b : Ex H1 H2) : Ex H H2 := ⟨fun x o h n => b.at_ x o (a.at_ x o h n) n, fun x h => b.hv x (a.hv x h), fun t => b.tb (a.tb t)⟩
theorem Ex.new {H : Hp} {p : Addr} {o : HO} (h : H p = none) : Ex H (upd H p o) := .full fun a u e => by rw [upd_ne (ne_of_none e h)]; exact e
/-- code objects are no containers -/
theorem code_dic {a : Addr} {q : Str} {L : Rows} (e : LamX.CodeO a q = DicN a L) : False := by
  have e1 : (fun h : Heap => ∃ (oc : Obj) (vs : Array Value) (t : Tok), h.get? a = some oc ∧ oc.data = .fields vs ∧ vs[1]? = some (.str q t)) = fun h => DicP h a L := HO.ext.inj e
  have hg : ({ objs := Array.replicate (a + 1) ({ cls := .none, data := .fields #[.none, .str q 0] } : Obj) } : Heap).get? a = some ({ cls := .none, data := .fields #[.none, .str q 0] } : Obj) := by
    unfold Heap.get?
    have : (Array.replicate (a + 1) ({ cls := .none, data := .fields #[.none, .str q 0] } : Obj))[a]? = some ({ cls := .none, data := .fields #[.none, .str q 0] } : Obj) := by simp
    simp only [this]
  have e2 : DicP ({ objs := Array.replicate (a + 1) ({ cls := .none, data := .fields #[.none, .str q 0] } : Obj) } : Heap) a L := (congrFun e1 _).mp ⟨_, _, 0, hg, rfl, rfl⟩
  obtain ⟨o, es, ep, xs, h1, _, h3, _⟩ := e2.ex
  rw [hg] at h1
  cases h1
  cases h3
theorem exo_dic {a C : Addr} {d : Option Addr} {L : Rows} (e : exo a C d = DicN a L) : False := by
  have e1 : (fun h : Heap => ∃ t1 : Addr, h.get? a = some ({ cls := .ref C, dict := d, data := .fields #[.ref t1, .none, .none, .none, .bool false, .none] } : Obj)) = fun h => DicP h a L := HO.ext.inj e
  have hg : ({ objs := Array.replicate (a + 1) ({ cls := .ref C, dict := d, data := .fields #[.ref 0, .none, .none, .none, .bool false, .none] } : Obj) } : Heap).get? a = some ({ cls := .ref C, dict := d, data := .fields #[.ref 0, .none, .none, .none, .bool false, .none] } : Obj) := by
    unfold Heap.get?
    have : (Array.replicate (a + 1) ({ cls := .ref C, dict := d, data := .fields #[.ref 0, .none, .none, .none, .bool false, .none] } : Obj))[a]? = some ({ cls := .ref C, dict := d, data := .fields #[.ref 0, .none, .none, .none, .bool false, .none] } : Obj) := by simp
    simp only [this]
  have e2 : DicP ({ objs := Array.replicate (a + 1) ({ cls := .ref C, dict := d, data := .fields #[.ref 0, .none, .none, .none, .bool false, .none] } : Obj) } : Heap) a L := (congrFun e1 _).mp ⟨0, hg⟩
  obtain ⟨o, es, ep, xs, h1, _, h3, _⟩ := e2.ex
  rw [hg] at h1
  cases h1
  cases h3
/-- what may change is no such object -/
theorem mu_xo {a : Addr} {u : HO} (h : Mu a u) (x : Xo a u) : False := by
  cases h with
  | lst xs =>
    generalize e : HO.lst xs = w at x
    cases x with
    | exo C d => unfold exo at e; cases e
    | xd fs => cases e
    | ins C dx fs => cases e
  | dic L =>
    generalize e : DicN a L = w at x
    cases x with
    | exo C d => exact exo_dic e.symm
    | xd fs => cases e
    | ins C dx fs => cases e
theorem code_mu {a : Addr} {q : Str} {u : HO} (h : Mu a u) (e : LamX.CodeO a q = u) : False := by
  cases h with
  | lst xs => unfold LamX.CodeO at e; cases e
  | dic L => exact code_dic e
theorem TabOk.mu {H : Hp} {p : Addr} {u o : HO} (m : Mu p u) (h : H p = some u) (t : TabOk H) : TabOk (upd H p o) := by
  have nP : ∀ b ps, H b = some (.tbl ps) → b ≠ p := fun b ps e w => m.nt ps (Option.some.inj (h.symm.trans (w ▸ e)))
  have nC : ∀ b q, H b = some (LamX.CodeO b q) → b ≠ p := fun b q e w => by
    subst w
    exact code_mu m (Option.some.inj (e.symm.trans h))
  refine ⟨fun x hx => ?_, fun P hP => ?_⟩
  · obtain ⟨ps, h1, h2, h3⟩ := t.1 x hx
    refine ⟨ps, by rw [upd_ne (nP _ _ h1)]; exact h1, h2, fun pos cv hc => ?_⟩
    obtain ⟨c, e1, e2⟩ := h3 pos cv hc
    exact ⟨c, e1, by rw [upd_ne (nC _ _ e2)]; exact e2⟩
  · obtain ⟨ps, h1, h2⟩ := t.2 P hP
    exact ⟨ps, by rw [upd_ne (nP _ _ h1)]; exact h1, h2⟩
theorem Ex.mut {H H' : Hp} {p : Addr} {u o : HO} (e : Ex H H') (h : H p = none) (m : Mu p u) (h' : H' p = some u) : Ex H (upd H' p o) := ⟨fun a u ha n => by rw [upd_ne (ne_of_none ha h)]; exact e.at_ a u ha n, fun a w => (by
  by_cases q : a = p
  · rw [q, upd_same]; intro z; cases z
  · rw [upd_ne q]; exact e.hv a w), fun t => (e.tb t).mu m h'⟩
section
variable {K : Fg} {B B' : Addr → Prop} {H H' : Hp}
theorem Ex.back {H H' : Hp} {p : Addr} (e : Ex H H') (h : H' p = none) : H p = none := by
  cases h1 : H p with
  | none => rfl
  | some o => exact (e.hv p (by rw [h1]; intro z; cases z) h).elim
theorem Ex.rd {H H' : Hp} {a : Addr} {u : HO} (e : Ex H H') (h : Rd H a u) (m : NT u := by first | exact nt_lst | exact nt_frz | exact nt_xd | exact nt_set | exact nt_dic | exact Mu.nt (by assumption) | assumption) : Rd H' a u := by
  rcases h with h | ⟨o, h⟩
  · exact .inl (e a _ h)
  · exact .inr ⟨o, e a _ h⟩
theorem Ex.xo {H H' : Hp} {a : Addr} {o : HO} (e : Ex H H') (m : Xo a o) (h : H a = some o) : H' a = some o := e.at_ a o h m.nt
theorem Ex.sqt {H H' : Hp} {a : Addr} {xs : List V} (e : Ex H H') (h : TupX K H a xs) : TupX K H' a xs := h.to fun o u q => e a _ q
theorem R.ex {d : D} {v : V} (e : Ex H H') (h : R K B H v d) : R K B H' v d := R.to (fun _ _ _ hb hr => ⟨hb, e.rd hr⟩) (fun _ _ q => e.sqt q) (fun _ _ m q => e.xo m q) d v h
theorem RA.ex {ds : List D} {vs : List V} (e : Ex H H') (h : RA K B H vs ds) : RA K B H' vs ds := RA.to (fun _ _ _ hb hr => ⟨hb, e.rd hr⟩) (fun _ _ q => e.sqt q) (fun _ _ m q => e.xo m q) ds vs h
theorem R.wider {d : D} {v : V} (e : ∀ a, B a → B' a) (h : R K B H v d) : R K B' H v d := R.to (fun _ _ _ hb hr => ⟨e _ hb, hr⟩) (fun _ _ q => q) (fun _ _ _ q => q) d v h
theorem RA.wider {ds : List D} {vs : List V} (e : ∀ a, B a → B' a) (h : RA K B H vs ds) : RA K B' H vs ds := RA.to (fun _ _ _ hb hr => ⟨e _ hb, hr⟩) (fun _ _ q => q) (fun _ _ _ q => q) ds vs h
/-- something that is no table stands there -/
def There (H : Hp) (a : Addr) : Prop := ∃ o, H a = some o ∧ NT o
theorem rd_there {H : Hp} {a : Addr} {u : HO} (m : Mu a u) (h : Rd H a u) : There H a := by
  rcases h with h | ⟨o, h⟩
  · exact ⟨_, h, m.nt⟩
  · exact ⟨_, h, nt_frz⟩
theorem rd_some {H : Hp} {a : Addr} {u : HO} (h : Rd H a u) : H a ≠ none := by
  rcases h with h | ⟨o, h⟩ <;> (intro e; rw [e] at h; cases h)
/-- a free address is nowhere within -/
theorem R.free {d : D} {v : V} {p : Addr} (hp : H p = none) (h : R K B H v d) : R K (fun a => B a ∧ a ≠ p) H v d :=
  R.to (fun a xs _ hb hr => ⟨⟨hb, fun e => rd_some hr (e ▸ hp)⟩, hr⟩) (fun _ _ q => q) (fun _ _ _ q => q) d v h
theorem RA.free {ds : List D} {vs : List V} {p : Addr} (hp : H p = none) (h : RA K B H vs ds) : RA K (fun a => B a ∧ a ≠ p) H vs ds :=
  RA.to (fun a xs _ hb hr => ⟨⟨hb, fun e => rd_some hr (e ▸ hp)⟩, hr⟩) (fun _ _ q => q) (fun _ _ _ q => q) ds vs h
theorem RA.length {ds : List D} {vs : List V} (h : RA K B H vs ds) : vs.length = ds.length := by
  induction ds generalizing vs with
  | nil => cases h; rfl
  | cons d ds ih => cases h with | cons h1 h2 => simp [ih h2]
theorem RA.get : ∀ {ds : List D} {vs : List V}, RA K B H vs ds → ∀ {i : Nat} {d : D}, ds[i]? = some d → ∃ v, vs[i]? = some v ∧ R K B H v d
  | [], _, _, i, _, e => by simp at e
  | _ :: _, _, .cons h1 h2, 0, d, e => by simp at e; subst e; exact ⟨_, rfl, h1⟩
  | _ :: _, _, .cons h1 h2, i + 1, d, e => by
    obtain ⟨v, h, r⟩ := RA.get h2 (i := i) (d := d) (by simpa using e)
    exact ⟨v, by simpa using h, r⟩
theorem RA.getV : ∀ {ds : List D} {vs : List V}, RA K B H vs ds → ∀ {i : Nat} {v : V}, vs[i]? = some v → ∃ d, ds[i]? = some d ∧ R K B H v d
  | [], _, .nil, i, _, e => by simp at e
  | _ :: _, _, .cons h1 h2, 0, d, e => by simp at e; subst e; exact ⟨_, rfl, h1⟩
  | _ :: _, _, .cons h1 h2, i + 1, d, e => by
    obtain ⟨v, h, r⟩ := RA.getV h2 (i := i) (v := d) (by simpa using e)
    exact ⟨v, by simpa using h, r⟩
theorem RA.append : ∀ {ds es : List D} {vs us : List V}, RA K B H vs ds → RA K B H us es → RA K B H (vs ++ us) (ds ++ es)
  | [], _, _, _, .nil, h => h
  | _ :: _, _, _, _, .cons h1 h2, h => .cons h1 (RA.append h2 h)
theorem RA.take : ∀ {ds : List D} {vs : List V} (n : Nat), RA K B H vs ds → RA K B H (vs.take n) (ds.take n)
  | _, _, 0, _ => .nil
  | [], _, _ + 1, .nil => .nil
  | _ :: _, _, n + 1, .cons h1 h2 => .cons h1 (RA.take n h2)
theorem RA.drop : ∀ {ds : List D} {vs : List V} (n : Nat), RA K B H vs ds → RA K B H (vs.drop n) (ds.drop n)
  | _, _, 0, h => h
  | [], _, _ + 1, .nil => .nil
  | _ :: _, _, n + 1, .cons h1 h2 => RA.drop n h2
theorem RA.reverse : ∀ {ds : List D} {vs : List V}, RA K B H vs ds → RA K B H vs.reverse ds.reverse
  | [], _, .nil => .nil
  | d :: ds, v :: vs, .cons h1 h2 => by
    rw [List.reverse_cons, List.reverse_cons]
    exact RA.append (RA.reverse h2) (.cons h1 .nil)
theorem RA.set : ∀ {ds : List D} {vs : List V} {d : D} {v : V} (i : Nat), RA K B H vs ds → R K B H v d → RA K B H (vs.set i v) (ds.set i d)
  | [], _, _, _, _, .nil, _ => .nil
  | _ :: _, _, _, _, 0, .cons _ h2, h => .cons h h2
  | _ :: _, _, _, _, i + 1, .cons h1 h2, h => .cons h1 (RA.set i h2 h)
end

/-! ### slots -/
/-- a set of tuples, or an exception at a (its dict at dd, its fields) -/
inductive Kd where
  | set (ks : List (List Int))
  | exc (a dd : Addr) (fs : List (Str × D))
/-- a slot of data: shared data, or a list of the def's own that nothing else holds, or another thing -/
inductive Cont where
  | lst (ds : List D)
  | dic (kvs : List (D × D))
def dataC : Cont → D
  | .lst ds => .list ds
  | .dic kvs => .dict kvs
inductive Sl where
  | sh (d : D)
  | own (c : Cont)
  | kd (k : Kd)
abbrev Sl.ow (ds : List D) : Sl := .own (.lst ds)
abbrev Sl.od (kvs : List (D × D)) : Sl := .own (.dic kvs)
abbrev Sl.st (ks : List (List Int)) : Sl := .kd (.set ks)
/-- the set of the tuples ks at v -/
def HasSet (K : Fg) (H : Hp) (v : V) (ks : List (List Int)) : Prop := ∃ (a : Addr) (L : List (Addr × List Int)), v = .ref a ∧ H a = some (SetN a L) ∧ (∀ p ∈ L, TupX K H p.1 (p.2.map V.int)) ∧ ∀ k, k ∈ L.map (·.2) ↔ k ∈ ks
theorem HasSet.to {K : Fg} {H H' : Hp} {v : V} {ks : List (List Int)} (h : HasSet K H v ks) (hs : ∀ a L, H a = some (SetN a L) → H' a = some (SetN a L)) (ht : ∀ a xs, TupX K H a xs → TupX K H' a xs) : HasSet K H' v ks := by
  obtain ⟨a, L, h1, h2, h3, h4⟩ := h
  exact ⟨a, L, h1, hs _ _ h2, fun p hp => ht _ _ (h3 p hp), h4⟩
theorem HasSet.ex {K : Fg} {H H' : Hp} {v : V} {ks : List (List Int)} (h : HasSet K H v ks) (e : Ex H H') : HasSet K H' v ks := h.to (fun _ _ q => e _ _ q) fun _ _ q => e.sqt q
/-- another thing at v -/
def HasK (K : Fg) (H : Hp) (v : V) : Kd → Prop
  | .set ks => HasSet K H v ks
  | .exc a dd fs => v = .ref a ∧ ∃ vs : List (Str × V), H dd = some (.xd vs) ∧ vs.map (·.1) = fs.map (·.1) ∧ RA K (fun _ => False) H (vs.map (·.2)) (fs.map (·.2))
theorem HasK.to {K : Fg} {H H' : Hp} {v : V} {k : Kd} (h : HasK K H v k) (hs : ∀ a L, H a = some (SetN a L) → H' a = some (SetN a L)) (ht : ∀ a xs, TupX K H a xs → TupX K H' a xs) (hx : ∀ a o, Xo a o → H a = some o → H' a = some o) : HasK K H' v k := by
  cases k with
  | set ks => exact HasSet.to h hs ht
  | exc a dd fs =>
    obtain ⟨h1, vs, h2, h3, h4⟩ := h
    exact ⟨h1, vs, hx _ _ (.xd _) h2, h3, RA.to (fun _ _ _ hb _ => hb.elim) ht hx _ _ h4⟩
theorem HasK.ex {K : Fg} {H H' : Hp} {v : V} {k : Kd} (h : HasK K H v k) (e : Ex H H') : HasK K H' v k := h.to (fun _ _ q => e _ _ q) (fun _ _ q => e.sqt q) fun _ _ m q => e.xo m q
abbrev S := List (Option Sl)
def Own (σ : St) (s : S) (a : Addr) : Prop := ∃ (i : Nat) (c : Cont), s[i]? = some (some (Sl.own c)) ∧ σ[i]? = some (some (V.ref a))
/-- what stands at a is the container c -/
inductive HasC (K : Fg) (B : Addr → Prop) (H : Hp) (a : Addr) : Cont → HO → Prop
  | lst {xs : List V} {ds : List D} : RA K B H xs ds → HasC K B H a (.lst ds) (.lst xs)
  | dic {L : Rows} {kvs : List (D × D)} : Paired (RowD K H) L kvs → HasC K B H a (.dic kvs) (DicN a L)
theorem HasC.mu {K : Fg} {B : Addr → Prop} {H : Hp} {a : Addr} {c : Cont} {u : HO} (h : HasC K B H a c u) : Mu a u := by cases h <;> constructor
theorem HasC.to {K : Fg} {B B' : Addr → Prop} {H H' : Hp} {a : Addr} {c : Cont} {u : HO} (hl : ∀ a u, Mu a u → B a → Rd H a u → B' a ∧ Rd H' a u) (ht : ∀ a xs, TupX K H a xs → TupX K H' a xs) (hx : ∀ a o, Xo a o → H a = some o → H' a = some o) (h : HasC K B H a c u) : HasC K B' H' a c u := by
  cases h with
  | lst h => exact .lst (RA.to hl ht hx _ _ h)
  | dic h => exact .dic (rows_to ht h)
theorem HasC.ex {K : Fg} {B : Addr → Prop} {H H' : Hp} {a : Addr} {c : Cont} {u : HO} (e : Ex H H') (h : HasC K B H a c u) : HasC K B H' a c u := h.to (fun _ _ _ hb hr => ⟨hb, e.rd hr⟩) (fun _ _ q => e.sqt q) (fun _ _ m q => e.xo m q)
theorem HasC.wider {K : Fg} {B B' : Addr → Prop} {H : Hp} {a : Addr} {c : Cont} {u : HO} (e : ∀ a, B a → B' a) (h : HasC K B H a c u) : HasC K B' H a c u := h.to (fun _ _ _ hb hr => ⟨e _ hb, hr⟩) (fun _ _ q => q) (fun _ _ _ q => q)
theorem HasC.free {K : Fg} {B : Addr → Prop} {H : Hp} {a : Addr} {c : Cont} {u : HO} {p : Addr} (hp : H p = none) (h : HasC K B H a c u) : HasC K (fun a => B a ∧ a ≠ p) H a c u := h.to (fun a xs _ hb hr => ⟨⟨hb, fun e => rd_some hr (e ▸ hp)⟩, hr⟩) (fun _ _ q => q) (fun _ _ _ q => q)
theorem mu_not_frz {a : Addr} {o : Obj} {u : HO} (h : Mu a (.frz o u)) : False := by
  generalize e : HO.frz o u = w at h
  cases h with
  | lst xs => cases e
  | dic L => cases e
theorem mu_not_xd {a : Addr} {fs : List (Str × V)} (h : Mu a (.xd fs)) : False := by
  generalize e : HO.xd fs = w at h
  cases h with
  | lst xs => cases e
  | dic L => cases e
/-- where clean data's lists may stand -/
def Cl (G : Addr → Prop) (σ : St) (s : S) (a : Addr) : Prop := G a ∧ ¬ Own σ s a

structure RS (K : Fg) (H0 : Hp) (G : Addr → Prop) (σ : St) (H : Hp) (s : S) : Prop where
  len : σ.length = s.length
  ex : Ex H0 H
  new : ∀ a, H a = none → G a
  sh : ∀ (i : Nat) (d : D), s[i]? = some (some (.sh d)) → ∃ v, σ[i]? = some (some v) ∧ R K (Cl G σ s) H v d
  ow : ∀ (i : Nat) (c : Cont), s[i]? = some (some (.own c)) → ∃ a u, σ[i]? = some (some (.ref a)) ∧ H a = some u ∧ H0 a = none ∧ G a ∧ HasC K (Cl G σ s) H a c u
  inj : ∀ (i j : Nat) (di dj : Cont) (a : Addr), s[i]? = some (some (.own di)) → s[j]? = some (some (.own dj)) → σ[i]? = some (some (.ref a)) → σ[j]? = some (some (.ref a)) → i = j
  st : ∀ (i : Nat) (k : Kd), s[i]? = some (some (.kd k)) → ∃ v, σ[i]? = some (some v) ∧ HasK K H v k
  tb : TabOk H
section
variable {K : Fg} {H0 H H' : Hp} {G : Addr → Prop} {σ σ' : St} {s s' : S}
theorem RS.mono (r : RS K H0 G σ H s) (e : Ex H H') : RS K H0 G σ H' s :=
  ⟨r.len, r.ex.trans e, fun a h => r.new a (e.back h), fun i d h => let ⟨v, h1, h2⟩ := r.sh i d h; ⟨v, h1, h2.ex e⟩,
    fun i ds h => let ⟨a, xs, h1, h2, h3, h4, h5⟩ := r.ow i ds h; ⟨a, xs, h1, e _ _ h2 h5.mu.nt, h3, h4, h5.ex e⟩, r.inj, fun i ks h => let ⟨v, h1, h2⟩ := r.st i ks h; ⟨v, h1, h2.ex e⟩, e.tb r.tb⟩
theorem RS.own_lst (r : RS K H0 G σ H s) {a : Addr} (h : Own σ s a) : ∃ u, H a = some u ∧ H0 a = none ∧ Mu a u := by
  obtain ⟨i, ds, h1, h2⟩ := h
  obtain ⟨b, xs, e1, e2, e3, _, e5⟩ := r.ow i ds h1
  rw [h2] at e1; cases e1
  exact ⟨xs, e2, e3, e5.mu⟩
theorem RS.owL (r : RS K H0 G σ H s) (i : Nat) (ds : List D) (h : s[i]? = some (some (.ow ds))) : ∃ a xs, σ[i]? = some (some (.ref a)) ∧ H a = some (.lst xs) ∧ H0 a = none ∧ G a ∧ RA K (Cl G σ s) H xs ds := by
  obtain ⟨a, u, h1, h2, h3, h4, h5⟩ := r.ow i _ h
  cases h5 with
  | lst h5 => exact ⟨a, _, h1, h2, h3, h4, h5⟩
theorem RS.owD (r : RS K H0 G σ H s) (i : Nat) (kvs : List (D × D)) (h : s[i]? = some (some (.od kvs))) : ∃ a L, σ[i]? = some (some (.ref a)) ∧ H a = some (DicN a L) ∧ H0 a = none ∧ G a ∧ Paired (RowD K H) L kvs := by
  obtain ⟨a, u, h1, h2, h3, h4, h5⟩ := r.ow i _ h
  cases h5 with
  | dic h5 => exact ⟨a, _, h1, h2, h3, h4, h5⟩
theorem RS.own_not (r : RS K H0 G σ H s) {p : Addr} (h : H p = none) : ¬ Own σ s p := fun o => by
  obtain ⟨xs, e, _⟩ := r.own_lst o
  rw [h] at e; cases e
theorem get_set {α : Type} {l : List α} {i j : Nat} {x y : α} (h : (l.set i x)[j]? = some y) : (j = i ∧ y = x ∧ i < l.length) ∨ (j ≠ i ∧ l[j]? = some y) := by
  by_cases e : j = i
  · subst e
    by_cases hl : j < l.length
    · rw [List.getElem?_set_self hl] at h
      exact .inl ⟨rfl, (Option.some.inj h).symm, hl⟩
    · rw [List.getElem?_eq_none (by rw [List.length_set]; omega)] at h; cases h
  · rw [List.getElem?_set_ne (Ne.symm e)] at h
    exact .inr ⟨e, h⟩
/-- a slot gets clean data -/
theorem RS.set (r : RS K H0 G σ H s) {v : V} {d : D} (i : Nat) (hv : R K (Cl G σ s) H v d) : RS K H0 G (σ.set i (some v)) H (s.set i (some (.sh d))) := by
  have ow' : ∀ a, Own (σ.set i (some v)) (s.set i (some (.sh d))) a → Own σ s a := fun a ⟨j, ds, h1, h2⟩ => by
    rcases get_set h1 with ⟨_, e, _⟩ | ⟨hj, h1⟩
    · cases e
    · rcases get_set h2 with ⟨e, _⟩ | ⟨_, h2⟩
      · exact (hj e).elim
      · exact ⟨j, ds, h1, h2⟩
  have cl : ∀ a, Cl G σ s a → Cl G (σ.set i (some v)) (s.set i (some (.sh d))) a := fun a ⟨h1, h2⟩ => ⟨h1, fun o => h2 (ow' a o)⟩
  refine ⟨by rw [List.length_set, List.length_set]; exact r.len, r.ex, r.new, fun j e h => ?_, fun j ds h => ?_, fun j k di dj a h1 h2 h3 h4 => ?_, fun j ks h => ?_, r.tb⟩
  · rcases get_set h with ⟨rfl, e1, hl⟩ | ⟨hj, h⟩
    · cases e1
      exact ⟨v, List.getElem?_set_self (by rw [r.len]; exact hl), hv.wider cl⟩
    · obtain ⟨u, h1, h2⟩ := r.sh j e h
      exact ⟨u, by rw [List.getElem?_set_ne (Ne.symm hj)]; exact h1, h2.wider cl⟩
  · rcases get_set h with ⟨_, e1, _⟩ | ⟨hj, h⟩
    · cases e1
    · obtain ⟨a, xs, h1, h2, h3, h4, h5⟩ := r.ow j ds h
      exact ⟨a, xs, by rw [List.getElem?_set_ne (Ne.symm hj)]; exact h1, h2, h3, h4, h5.wider cl⟩
  · rcases get_set h1 with ⟨_, e, _⟩ | ⟨n1, h1⟩
    · cases e
    rcases get_set h2 with ⟨_, e, _⟩ | ⟨n2, h2⟩
    · cases e
    rw [List.getElem?_set_ne (Ne.symm n1)] at h3
    rw [List.getElem?_set_ne (Ne.symm n2)] at h4
    exact r.inj j k di dj a h1 h2 h3 h4
  · rcases get_set h with ⟨_, e1, _⟩ | ⟨hj, h⟩
    · cases e1
    · obtain ⟨u, h1, h2⟩ := r.st j ks h
      exact ⟨u, by rw [List.getElem?_set_ne (Ne.symm hj)]; exact h1, h2⟩
/-- a slot gets a set -/
theorem RS.setS (r : RS K H0 G σ H s) {v : V} {ks : Kd} (i : Nat) (hv : HasK K H v ks) : RS K H0 G (σ.set i (some v)) H (s.set i (some (.kd ks))) := by
  have ow' : ∀ a, Own (σ.set i (some v)) (s.set i (some (.kd ks))) a → Own σ s a := fun a ⟨j, ds, h1, h2⟩ => by
    rcases get_set h1 with ⟨_, e, _⟩ | ⟨hj, h1⟩
    · cases e
    · rcases get_set h2 with ⟨e, _⟩ | ⟨_, h2⟩
      · exact (hj e).elim
      · exact ⟨j, ds, h1, h2⟩
  have cl : ∀ a, Cl G σ s a → Cl G (σ.set i (some v)) (s.set i (some (.kd ks))) a := fun a ⟨h1, h2⟩ => ⟨h1, fun o => h2 (ow' a o)⟩
  refine ⟨by rw [List.length_set, List.length_set]; exact r.len, r.ex, r.new, fun j e h => ?_, fun j ds h => ?_, fun j k di dj a h1 h2 h3 h4 => ?_, fun j ks' h => ?_, r.tb⟩
  · rcases get_set h with ⟨_, e1, _⟩ | ⟨hj, h⟩
    · cases e1
    · obtain ⟨u, h1, h2⟩ := r.sh j e h
      exact ⟨u, by rw [List.getElem?_set_ne (Ne.symm hj)]; exact h1, h2.wider cl⟩
  · rcases get_set h with ⟨_, e1, _⟩ | ⟨hj, h⟩
    · cases e1
    · obtain ⟨a, xs, h1, h2, h3, h4, h5⟩ := r.ow j ds h
      exact ⟨a, xs, by rw [List.getElem?_set_ne (Ne.symm hj)]; exact h1, h2, h3, h4, h5.wider cl⟩
  · rcases get_set h1 with ⟨_, e, _⟩ | ⟨n1, h1⟩
    · cases e
    rcases get_set h2 with ⟨_, e, _⟩ | ⟨n2, h2⟩
    · cases e
    rw [List.getElem?_set_ne (Ne.symm n1)] at h3
    rw [List.getElem?_set_ne (Ne.symm n2)] at h4
    exact r.inj j k di dj a h1 h2 h3 h4
  · rcases get_set h with ⟨rfl, e1, hl⟩ | ⟨hj, h⟩
    · cases e1
      exact ⟨v, List.getElem?_set_self (by rw [r.len]; exact hl), hv⟩
    · obtain ⟨u, h1, h2⟩ := r.st j ks' h
      exact ⟨u, by rw [List.getElem?_set_ne (Ne.symm hj)]; exact h1, h2⟩
/-- a slot gets a container that nothing else holds -/
theorem RS.setC (r : RS K H0 G σ H s) {p : Addr} {u : HO} {c : Cont} (i : Nat) (e : Ex H H') (hp : H p = none) (h' : H' p = some u) (hx : HasC K (fun a => Cl G σ s a ∧ a ≠ p) H' p c u) :
    RS K H0 G (σ.set i (some (.ref p))) H' (s.set i (some (.own c))) := by
  have ow' : ∀ a, Own (σ.set i (some (.ref p))) (s.set i (some (.own c))) a → a = p ∨ Own σ s a := fun a ⟨j, es, h1, h2⟩ => by
    rcases get_set h1 with ⟨e1, _, _⟩ | ⟨hj, h1⟩
    · rcases get_set h2 with ⟨_, e2, _⟩ | ⟨n, h2⟩
      · cases e2; exact .inl rfl
      · exact (n e1).elim
    · rcases get_set h2 with ⟨e2, _⟩ | ⟨_, h2⟩
      · exact (hj e2).elim
      · exact .inr ⟨j, es, h1, h2⟩
  have cl : ∀ a, (Cl G σ s a ∧ a ≠ p) → Cl G (σ.set i (some (.ref p))) (s.set i (some (.own c))) a := fun a ⟨⟨h1, h2⟩, h3⟩ => ⟨h1, fun o => (ow' a o).elim h3 h2⟩
  have np : ∀ (j : Nat) (es : Cont) (a : Addr), s[j]? = some (some (Sl.own es)) → σ[j]? = some (some (.ref a)) → a ≠ p := fun j es a h1 h2 q => by
    obtain ⟨b, ys, e1, e2, _⟩ := r.ow j es h1
    rw [h2] at e1; cases e1
    rw [q, hp] at e2; cases e2
  refine ⟨by rw [List.length_set, List.length_set]; exact r.len, r.ex.trans e, fun a h => r.new a (e.back h), fun j d h => ?_, fun j es h => ?_, fun j k di dj a h1 h2 h3 h4 => ?_, fun j ks h => ?_, e.tb r.tb⟩
  · rcases get_set h with ⟨_, e1, _⟩ | ⟨hj, h⟩
    · cases e1
    · obtain ⟨u, h1, h2⟩ := r.sh j d h
      exact ⟨u, by rw [List.getElem?_set_ne (Ne.symm hj)]; exact h1, ((h2.free hp).wider cl).ex e⟩
  · rcases get_set h with ⟨rfl, e1, hl⟩ | ⟨hj, h⟩
    · cases e1
      exact ⟨p, u, List.getElem?_set_self (by rw [r.len]; exact hl), h', r.ex.back hp, r.new p hp, hx.wider cl⟩
    · obtain ⟨a, ys, h1, h2, h3, h4, h5⟩ := r.ow j es h
      exact ⟨a, ys, by rw [List.getElem?_set_ne (Ne.symm hj)]; exact h1, e _ _ h2 h5.mu.nt, h3, h4, ((h5.free hp).wider cl).ex e⟩
  · rcases get_set h1 with ⟨j1, _, _⟩ | ⟨n1, h1⟩
    · rcases get_set h2 with ⟨k1, _, _⟩ | ⟨n2, h2⟩
      · rw [j1, k1]
      · rcases get_set h3 with ⟨_, e3, _⟩ | ⟨n3, _⟩
        · cases e3
          rw [List.getElem?_set_ne (Ne.symm n2)] at h4
          exact (np k dj p h2 h4 rfl).elim
        · exact (n3 j1).elim
    · rw [List.getElem?_set_ne (Ne.symm n1)] at h3
      rcases get_set h2 with ⟨k1, _, _⟩ | ⟨n2, h2⟩
      · rcases get_set h4 with ⟨_, e4, _⟩ | ⟨n4, _⟩
        · cases e4
          exact (np j di p h1 h3 rfl).elim
        · exact (n4 k1).elim
      · rw [List.getElem?_set_ne (Ne.symm n2)] at h4
        exact r.inj j k di dj a h1 h2 h3 h4
  · rcases get_set h with ⟨_, e1, _⟩ | ⟨hj, h⟩
    · cases e1
    · obtain ⟨u, h1, h2⟩ := r.st j ks h
      exact ⟨u, by rw [List.getElem?_set_ne (Ne.symm hj)]; exact h1, h2.ex e⟩
/-- a slot gets a list that nothing else holds -/
theorem RS.setO (r : RS K H0 G σ H s) {p : Addr} {xs : List V} {ds : List D} (i : Nat) (e : Ex H H') (hp : H p = none) (h' : H' p = some (.lst xs)) (hx : RA K (fun a => Cl G σ s a ∧ a ≠ p) H' xs ds) :
    RS K H0 G (σ.set i (some (.ref p))) H' (s.set i (some (.ow ds))) := r.setC i e hp h' (.lst hx)
/-- a container of the def's own changes -/
theorem RS.mutC (r : RS K H0 G σ H s) {i : Nat} {a : Addr} {es c : Cont} {u : HO} (hi : s[i]? = some (some (Sl.own es))) (ha : σ[i]? = some (some (V.ref a))) (hx : HasC K (Cl G σ s) H a c u) (hS : ∀ b L, H b = some (SetN b L) → b ≠ a) : RS K H0 G σ (upd H a u) (s.set i (some (.own c))) := by
  obtain ⟨ys, hl, h0, mu⟩ := r.own_lst ⟨i, es, hi, ha⟩
  have own : ∀ b, Own σ (s.set i (some (.own c))) b → Own σ s b := fun b ⟨j, es', h1, h2⟩ => by
    rcases get_set h1 with ⟨e1, _, _⟩ | ⟨hj, h1⟩
    · subst e1; exact ⟨j, es, hi, h2⟩
    · exact ⟨j, es', h1, h2⟩
  have oa : Own σ s a := ⟨i, es, hi, ha⟩
  have hl' : ∀ b z, Mu b z → Cl G σ s b → Rd H b z → Cl G σ (s.set i (some (.own c))) b ∧ Rd (upd H a u) b z := fun b z _ hb hr => by
    have ne : b ≠ a := fun q => hb.2 (by rw [q]; exact oa)
    refine ⟨⟨hb.1, fun o => hb.2 (own b o)⟩, ?_⟩
    rcases hr with h | ⟨o, h⟩
    · exact .inl (by rw [upd_ne ne]; exact h)
    · exact .inr ⟨o, by rw [upd_ne ne]; exact h⟩
  have ht' : ∀ b zs, TupX K H b zs → TupX K (upd H a u) b zs := fun b zs h => h.to fun o z q => by
    rw [upd_ne (fun w => by rw [w, hl] at q; cases q; exact mu_not_frz mu)]; exact q
  have hx' : ∀ b o, Xo b o → H b = some o → upd H a u b = some o := fun b o m q => by
    rw [upd_ne (fun w => by subst w; rw [hl] at q; cases q; exact mu_xo mu m)]; exact q
  refine ⟨by rw [List.length_set]; exact r.len, r.ex.mut h0 mu hl, fun b h => ?_, fun j d h => ?_, fun j es' h => ?_, fun j k di dj b h1 h2 h3 h4 => ?_, fun j ks h => ?_, r.tb.mu mu hl⟩
  · by_cases q : b = a
    · rw [q, upd_same] at h; cases h
    · rw [upd_ne q] at h; exact r.new b h
  · rcases get_set h with ⟨_, e1, _⟩ | ⟨hj, h⟩
    · cases e1
    · obtain ⟨v, h1, h2⟩ := r.sh j d h
      exact ⟨v, h1, R.to hl' ht' hx' _ _ h2⟩
  · rcases get_set h with ⟨rfl, e1, hl2⟩ | ⟨hj, h⟩
    · cases e1
      obtain ⟨b, zs, h1, h2, h3, h4, h5⟩ := r.ow j es hi
      rw [ha] at h1; cases h1
      exact ⟨a, u, ha, upd_same, h0, h4, hx.to hl' ht' hx'⟩
    · obtain ⟨b, zs, h1, h2, h3, h4, h5⟩ := r.ow j es' h
      have ne : b ≠ a := fun q => hj (r.inj j i es' es a h hi (by rw [h1, q]) ha)
      exact ⟨b, zs, h1, by rw [upd_ne ne]; exact h2, h3, h4, h5.to hl' ht' hx'⟩
  · have back : ∀ {j : Nat} {dj : Cont}, (s.set i (some (.own c)))[j]? = some (some (.own dj)) → ∃ dj', s[j]? = some (some (.own dj')) := fun {j dj} h => by
      rcases get_set h with ⟨rfl, _, _⟩ | ⟨_, h⟩
      · exact ⟨es, hi⟩
      · exact ⟨dj, h⟩
    obtain ⟨di', h1⟩ := back h1
    obtain ⟨dj', h2⟩ := back h2
    exact r.inj j k di' dj' b h1 h2 h3 h4
  · rcases get_set h with ⟨_, e1, _⟩ | ⟨hj, h⟩
    · cases e1
    · obtain ⟨v, h1, h2⟩ := r.st j ks h
      exact ⟨v, h1, h2.to (fun b L q => by rw [upd_ne (hS b L q)]; exact q) ht' hx'⟩
/-- a list of the def's own changes -/
theorem RS.mutO (r : RS K H0 G σ H s) {i : Nat} {a : Addr} {es ds : List D} {xs : List V} (hi : s[i]? = some (some (Sl.ow es))) (ha : σ[i]? = some (some (V.ref a))) (hx : RA K (Cl G σ s) H xs ds) : RS K H0 G σ (upd H a (.lst xs)) (s.set i (some (.ow ds))) := r.mutC hi ha (.lst hx) fun b L q w => by
  obtain ⟨a', ys, e1, e2, _⟩ := r.owL i es hi
  rw [ha] at e1; cases e1
  rw [w, e2] at q; cases q
/-- its container is shared from now on -/
theorem RS.shareC (r : RS K H0 G σ H s) {i : Nat} {es : Cont} (hi : s[i]? = some (some (Sl.own es))) : RS K H0 G σ H (s.set i (some (.sh (dataC es)))) := by
  have own : ∀ b, Own σ (s.set i (some (.sh (dataC es)))) b → Own σ s b ∧ ∀ a, σ[i]? = some (some (.ref a)) → b ≠ a := fun b ⟨j, es', h1, h2⟩ => by
    rcases get_set h1 with ⟨_, e1, _⟩ | ⟨hj, h1⟩
    · cases e1
    · exact ⟨⟨j, es', h1, h2⟩, fun a ha q => hj (r.inj j i es' es a h1 hi (by rw [h2, q]) ha)⟩
  have cl : ∀ a, Cl G σ s a → Cl G σ (s.set i (some (.sh (dataC es)))) a := fun a ⟨h1, h2⟩ => ⟨h1, fun o => h2 (own a o).1⟩
  refine ⟨by rw [List.length_set]; exact r.len, r.ex, r.new, fun j d h => ?_, fun j es' h => ?_, fun j k di dj b h1 h2 h3 h4 => ?_, fun j ks h => ?_, r.tb⟩
  · rcases get_set h with ⟨rfl, e1, _⟩ | ⟨hj, h⟩
    · cases e1
      obtain ⟨a, xs, h1, h2, h3, h4, h5⟩ := r.ow j es hi
      refine ⟨.ref a, h1, ?_⟩
      cases h5 with
      | lst h5 => exact .lst (.inl ⟨⟨h4, fun o => (own a o).2 a h1 rfl⟩, .inl h2⟩) (h5.wider cl)
      | dic h5 => exact .dic ⟨h4, fun o => (own a o).2 a h1 rfl⟩ (.inl h2) h5
    · obtain ⟨u, h1, h2⟩ := r.sh j d h
      exact ⟨u, h1, h2.wider cl⟩
  · rcases get_set h with ⟨_, e1, _⟩ | ⟨hj, h⟩
    · cases e1
    · obtain ⟨a, xs, h1, h2, h3, h4, h5⟩ := r.ow j es' h
      exact ⟨a, xs, h1, h2, h3, h4, h5.wider cl⟩
  · rcases get_set h1 with ⟨_, e1, _⟩ | ⟨_, h1⟩
    · cases e1
    rcases get_set h2 with ⟨_, e1, _⟩ | ⟨_, h2⟩
    · cases e1
    exact r.inj j k di dj b h1 h2 h3 h4
  · rcases get_set h with ⟨_, e1, _⟩ | ⟨hj, h⟩
    · cases e1
    · exact r.st j ks h
theorem RS.share (r : RS K H0 G σ H s) {i : Nat} {es : List D} (hi : s[i]? = some (some (Sl.ow es))) : RS K H0 G σ H (s.set i (some (.sh (.list es)))) := r.shareC hi
end
end DD

namespace DD
variable [LTb]
open PySem L2

theorem pe_imp {X : Cx} {e : Expr} {t u : TE} (h : PE X e t) (i : ∀ σ H Q, u σ H Q → t σ H Q) : PE X e u := ⟨fun pins s σ H Q I q => h.run pins s σ H Q I (i σ H Q q)⟩
theorem pt_imp {X : Cx} {e : Expr} {t u : TT} (h : PT X e t) (i : ∀ σ H Q, u σ H Q → t σ H Q) : PT X e u := ⟨fun pins s σ H Q I q => h.run pins s σ H Q I (i σ H Q q)⟩
theorem pw_imp {X : Cx} {e : Expr} {t u : TT} (h : PW X e t) (i : ∀ σ H Q, u σ H Q → t σ H Q) : PW X e u := ⟨fun w pins s σ H Q I q => h.run w pins s σ H Q I (i σ H Q q)⟩
theorem pa_imp {X : Cx} {es : List Expr} {t u : TA} (h : PA X es t) (i : ∀ σ H Q, u σ H Q → t σ H Q) : PA X es u := ⟨fun pos pins s σ H Q I q => h.run pos pins s σ H Q I (i σ H Q q)⟩
theorem ps_imp {X : Cx} {st : Stmt} {t u : TS} (h : PS X st t) (i : ∀ D σ H, u D σ H → t D σ H) : PS X st u := ⟨fun pins s σ H D I q => h.run pins s σ H D I (i D σ H q)⟩
theorem pss_imp {X : Cx} {st : List Stmt} {t u : TS} (h : PSs X st t) (i : ∀ D σ H, u D σ H → t D σ H) : PSs X st u := ⟨fun pins s σ H D I q => h.run pins s σ H D I (i D σ H q)⟩
theorem po_imp {X : Cx} {e : Option Expr} {t u : TO} (h : PO X e t) (i : ∀ σ H Q, u σ H Q → t σ H Q) : PO X e u := ⟨fun pins s σ H Q I q => h.run pins s σ H Q I (i σ H Q q)⟩

/-! ### readings over data -/
abbrev M := S → Option D
abbrev ML := S → Option (List D)
abbrev MB := S → Option Bool
/-- clean data, or a whole list of the def's own -/
def RB (K : Fg) (G : Addr → Prop) (σ : St) (s : S) (H : Hp) (v : V) (d : D) : Prop := R K (Cl G σ s) H v d ∨ ∃ (i : Nat) (c : Cont), s[i]? = some (some (Sl.own c)) ∧ σ[i]? = some (some v) ∧ d = dataC c
def tD (K : Fg) (m : M) : TE := fun σ H Q => ∃ H0 G s d, RS K H0 G σ H s ∧ m s = some d ∧ ∀ v H', Ex H H' → R K (Cl G σ s) H' v d → Q v H'
def tBo (K : Fg) (m : M) : TE := fun σ H Q => ∃ H0 G s d, RS K H0 G σ H s ∧ m s = some d ∧ ∀ v H', Ex H H' → RB K G σ s H' v d → Q v H'
def tL (K : Fg) (m : ML) : TE := fun σ H Q => ∃ H0 G s ds, RS K H0 G σ H s ∧ m s = some ds ∧ ∀ p xs H', H p = none → Ex H H' → H' p = some (.lst xs) → RA K (fun a => Cl G σ s a ∧ a ≠ p) H' xs ds → Q (.ref p) H'
def tT (K : Fg) (m : MB) : TT := fun σ H Q => ∃ H0 G s b, RS K H0 G σ H s ∧ m s = some b ∧ ∀ H', Ex H H' → Q b H'
def tAc (K : Fg) (m : ML) : TA := fun σ H Q => ∃ H0 G s ds, RS K H0 G σ H s ∧ m s = some ds ∧ ∀ vs H', Ex H H' → RA K (Cl G σ s) H' vs ds → Q vs H'
def tAb (K : Fg) (m : ML) : TA := fun σ H Q => ∃ H0 G s ds, RS K H0 G σ H s ∧ m s = some ds ∧ ∀ vs H', Ex H H' → RA K (fun _ => True) H' vs ds → Q vs H'
abbrev XE (K : Fg) (X : Cx) (e : Expr) (m : M) := PE X e (tD K m)
abbrev XB (K : Fg) (X : Cx) (e : Expr) (m : M) := PE X e (tBo K m)
abbrev XL (K : Fg) (X : Cx) (e : Expr) (m : ML) := PE X e (tL K m)
abbrev XT (K : Fg) (X : Cx) (e : Expr) (m : MB) := PT X e (tT K m)
abbrev XW (K : Fg) (X : Cx) (e : Expr) (m : MB) := PW X e (tT K m)
abbrev XA (K : Fg) (X : Cx) (es : List Expr) (m : ML) := PA X es (tAc K m)
abbrev XAb (K : Fg) (X : Cx) (es : List Expr) (m : ML) := PA X es (tAb K m)

section
variable {K : Fg} {X : Cx} {H0 H H' : Hp} {G : Addr → Prop} {σ : St} {s : S}
theorem RB.any {v : V} {d : D} (r : RS K H0 G σ H s) (e : Ex H H') (h : RB K G σ s H' v d) : R K (fun _ => True) H' v d := by
  rcases h with h | ⟨i, ds, h1, h2, rfl⟩
  · exact h.wider fun _ _ => trivial
  · obtain ⟨a, xs, e1, e2, _, _, e3⟩ := (r.mono e).ow i ds h1
    rw [h2] at e1; cases e1
    cases e3 with
    | lst e3 => exact .lst (.inl ⟨trivial, .inl e2⟩) (e3.wider fun _ _ => trivial)
    | dic e3 => exact .dic trivial (.inl e2) e3
theorem some_bind {α β : Type} {x : Option α} {f : α → Option β} {b : β} (h : x.bind f = some b) : ∃ a, x = some a ∧ f a = some b := by
  cases x with
  | none => cases h
  | some a => exact ⟨a, rfl, h⟩
theorem x_b {e : Expr} {m : M} (h : XE K X e m) : XB K X e m := pe_imp h fun σ H Q ⟨H0, G, s, d, r, e, q⟩ => ⟨H0, G, s, d, r, e, fun v H' e1 rv => q v H' e1 (.inl rv)⟩
/-- a fresh list as data -/
def mL (m : ML) : M := fun s => (m s).map .list
theorem l_x {e : Expr} {m : ML} (h : XL K X e m) : XE K X e (mL m) := pe_imp h fun σ H Q ⟨H0, G, s, d, r, e, q⟩ => by
  unfold mL at e
  cases hm : m s with
  | none => rw [hm] at e; cases e
  | some ds =>
    rw [hm] at e; cases e
    exact ⟨H0, G, s, ds, r, hm, fun p xs H' hp e1 h1 hx => q _ H' e1 (.lst (.inl ⟨⟨r.new p hp, r.own_not hp⟩, .inl h1⟩) (hx.wider fun a z => z.1))⟩
theorem l_b {e : Expr} {m : ML} (h : XL K X e m) : XB K X e (mL m) := x_b (l_x h)

/-! ### names and constants -/
def mC (d : D) : M := fun _ => some d
def mVar (i : Nat) : M := fun s => match s[i]? with | some (some (.sh d)) => some d | _ => none
def mVarB (i : Nat) : M := fun s => match s[i]? with | some (some (.sh d)) => some d | some (some (.own c)) => some (dataC c) | _ => none
theorem x_int {i : Int} {j pos} : XE K X (.Constant (.int i) j pos) (mC (.int i)) := pe_imp pe_int fun σ H Q ⟨H0, G, s, d, r, e, q⟩ => by cases e; exact q _ _ (Ex.refl _) (.int i)
theorem x_bl {b : Bool} {j pos} : XE K X (.Constant (.bool b) j pos) (mC (.bool b)) := pe_imp pe_bl fun σ H Q ⟨H0, G, s, d, r, e, q⟩ => by cases e; exact q _ _ (Ex.refl _) (.bl b)
theorem x_non {j pos} : XE K X (.Constant .none j pos) (mC .none) := pe_imp pe_non fun σ H Q ⟨H0, G, s, d, r, e, q⟩ => by cases e; exact q _ _ (Ex.refl _) .non
theorem x_str {x : Str} {j pos} (h : (PyData.str x).canLay0 = true := by decide) : XE K X (.Constant (.str x) j pos) (mC (.str x)) := pe_imp pe_str fun σ H Q ⟨H0, G, s, d, r, e, q⟩ => by cases e; exact q _ _ (Ex.refl _) (.str h)
theorem x_pv {i : Nat} {e : Expr} (h : PE X e (tVar i)) : XE K X e (mVar i) := pe_imp h fun σ H Q ⟨H0, G, s, d, r, e, q⟩ => by
  unfold mVar at e
  split at e
  · rename_i z
    cases e
    obtain ⟨v, h1, h2⟩ := r.sh i d z
    exact ⟨v, h1, q v H (Ex.refl _) h2⟩
  · cases e
theorem b_pv {i : Nat} {e : Expr} (h : PE X e (tVar i)) : XB K X e (mVarB i) := pe_imp h fun σ H Q ⟨H0, G, s, d, r, e, q⟩ => by
  unfold mVarB at e
  split at e
  · rename_i z
    cases e
    obtain ⟨v, h1, h2⟩ := r.sh i d z
    exact ⟨v, h1, q v H (Ex.refl _) (.inl h2)⟩
  · rename_i ds z
    cases e
    obtain ⟨a, xs, h1, _⟩ := r.ow i ds z
    exact ⟨.ref a, h1, q _ H (Ex.refl _) (.inr ⟨i, ds, z, h1, rfl⟩)⟩
  · cases e

/-! ### operators that give a plain value and leave the heap -/
def OpS (K : Fg) (r : R2) (f : D → D → Option D) : Prop := ∀ (H : Hp) (x y : V) (d e z : D), R K (fun _ => True) H x d → R K (fun _ => True) H y e → f d e = some z → ∃ v, R K (fun _ => False) H v z ∧ ∀ Q : VK, Q v H → r x y H Q
def UnS (K : Fg) (r : V → Hp → VK → Prop) (f : D → Option D) : Prop := ∀ (H : Hp) (x : V) (d z : D), R K (fun _ => True) H x d → f d = some z → ∃ v, R K (fun _ => False) H v z ∧ ∀ Q : VK, Q v H → r x H Q
def m2 (f : D → D → Option D) (a b : M) : M := fun s => (a s).bind fun x => (b s).bind fun y => f x y
def m1 (f : D → Option D) (a : M) : M := fun s => (a s).bind f
theorem rd2 {r : R2} {f : D → D → Option D} {ma mb : M} (hs : OpS K r f) {σ : St} {H : Hp} {Q : VK} (h : tD K (m2 f ma mb) σ H Q) : tOp r (tBo K ma) (tBo K mb) σ H Q := by
  obtain ⟨H0, G, s, d, rs, e, q⟩ := h
  obtain ⟨x, ex, e⟩ := some_bind e
  obtain ⟨y, ey, ez⟩ := some_bind e
  refine ⟨H0, G, s, x, rs, ex, fun v H1 e1 rv => ⟨H0, G, s, y, rs.mono e1, ey, fun u H2 e2 ru => ?_⟩⟩
  obtain ⟨w, hw, k⟩ := hs H2 v u x y d ((RB.any rs e1 rv).ex e2) (RB.any (rs.mono e1) e2 ru) ez
  exact k Q (q w H2 (e1.trans e2) (hw.wider fun _ z => z.elim))
theorem rd1 {r : V → Hp → VK → Prop} {f : D → Option D} {ma : M} (hs : UnS K r f) {σ : St} {H : Hp} {Q : VK} (h : tD K (m1 f ma) σ H Q) : tUn r (tBo K ma) σ H Q := by
  obtain ⟨H0, G, s, d, rs, e, q⟩ := h
  obtain ⟨x, ex, ez⟩ := some_bind e
  refine ⟨H0, G, s, x, rs, ex, fun v H1 e1 rv => ?_⟩
  obtain ⟨w, hw, k⟩ := hs H1 v x d (RB.any rs e1 rv) ez
  exact k Q (q w H1 e1 (hw.wider fun _ z => z.elim))
def boolOf : D → Option Bool
  | .bool b => some b
  | _ => none
/-- a value that is a bool, as a test -/
def mT (m : M) : MB := fun s => (m s).bind boolOf
theorem boolOf_some {d : D} {b : Bool} (h : boolOf d = some b) : d = .bool b := by
  cases d <;> simp [boolOf] at h
  rw [h]
theorem tT_tD {m : M} {σ : St} {H : Hp} {Q : Bool → Hp → Prop} (h : tT K (mT m) σ H Q) : tD K m σ H fun x H1 => ∃ c, x = .bl c ∧ Q c H1 := by
  obtain ⟨H0, G, s, b, rs, e, q⟩ := h
  obtain ⟨d, ed, eb⟩ := some_bind e
  have e2 := boolOf_some eb
  subst e2
  refine ⟨H0, G, s, _, rs, ed, fun v H1 e1 rv => ?_⟩
  cases rv
  exact ⟨b, rfl, q H1 e1⟩
section
variable {a b e : Expr} {ma mb mc : M} {pos : Pos}
theorem x_op {op : Operator} {r : R2} {f : D → D → Option D} (ho : OpR X (binaryOp op) r) (hs : OpS K r f) (ha : XB K X a ma) (hb : XB K X b mb) : XE K X (.BinOp a op b pos) (m2 f ma mb) := pe_imp (pe_op ho ha hb) fun _ _ _ h => rd2 hs h
theorem x_un {op : UnaryOp} {r : V → Hp → VK → Prop} {f : D → Option D} (ho : UnR X (unaryOp op) r) (hs : UnS K r f) (ha : XB K X a ma) : XE K X (.UnaryOp op a pos) (m1 f ma) := pe_imp (pe_un ho ha) fun _ _ _ h => rd1 hs h
theorem x_cmp {op : CmpOp} {r : R2} {f : D → D → Option D} (ho : OpR X (compareOp op) r) (hs : OpS K r f) (ha : XB K X a ma) (hb : XB K X b mb) (hm : behindInMarks op b = false) : XE K X (.Compare a [op] [b] pos) (m2 f ma mb) := pe_imp (pe_cmpR ho ha hb hm) fun _ _ _ h => rd2 hs h
theorem t_cmp {op : CmpOp} {r : R2} {f : D → D → Option D} (ho : OpR X (compareOp op) r) (hs : OpS K r f) (ha : XB K X a ma) (hb : XB K X b mb) (hm : behindInMarks op b = false) : XT K X (.Compare a [op] [b] pos) (mT (m2 f ma mb)) :=
  pt_imp (pt_cmpR ho ha hb hm) fun _ _ _ h => rd2 hs (tT_tD h)
theorem t_val (h : XE K X e ma) (he : ∀ whole, isTrue e X.env whole = (do let v ← whole; standAt e.pos; holding [v] (truthy v)) := by intro _; rfl) : XT K X e (mT ma) := pt_imp (pt_val h he) fun _ _ _ h => tT_tD h
/-- a < b < c -/
def mChain (f g : D → D → Option D) (a b c : M) : M := fun s => (a s).bind fun x => (b s).bind fun y => (f x y).bind fun k => (boolOf k).bind fun t => if t = true then (c s).bind fun z => g y z else some (.bool false)
theorem rdChain {r r' : R2} {f g : D → D → Option D} (hs : OpS K r f) (hs' : OpS K r' g) {σ : St} {H : Hp} {Q : VK} (h : tD K (mChain f g ma mb mc) σ H Q) : tChain r r' (tBo K ma) (tBo K mb) (tBo K mc) σ H Q := by
  obtain ⟨H0, G, s, d, rs, e, q⟩ := h
  obtain ⟨x, ex, e⟩ := some_bind e
  obtain ⟨y, ey, e⟩ := some_bind e
  obtain ⟨k, ek, e⟩ := some_bind e
  obtain ⟨t, et, e4⟩ := some_bind e
  clear e
  have e2 := boolOf_some et
  subst e2
  refine ⟨H0, G, s, x, rs, ex, fun v H1 e1 rv => ⟨H0, G, s, y, rs.mono e1, ey, fun u H2 e2 ru => ?_⟩⟩
  obtain ⟨w, hw, kk⟩ := hs H2 v u x y _ ((RB.any rs e1 rv).ex e2) (RB.any (rs.mono e1) e2 ru) ek
  refine kk _ ?_
  cases hw
  refine ⟨t, rfl, ?_⟩
  cases t with
  | false =>
    rw [if_neg Bool.false_ne_true]
    rw [if_neg Bool.false_ne_true] at e4
    cases e4
    exact q _ H2 (e1.trans e2) (.bl false)
  | true =>
    rw [if_pos rfl]
    rw [if_pos rfl] at e4
    obtain ⟨z, ez, e4⟩ := some_bind e4
    refine ⟨H0, G, s, z, rs.mono (e1.trans e2), ez, fun u3 H3 e3 r3 => ?_⟩
    obtain ⟨w', hw', kk'⟩ := hs' H3 u u3 y z d ((RB.any (rs.mono e1) e2 ru).ex e3) (RB.any (rs.mono (e1.trans e2)) e3 r3) e4
    exact kk' Q (q w' H3 ((e1.trans e2).trans e3) (hw'.wider fun _ z => z.elim))
theorem x_chain {op op' : CmpOp} {r r' : R2} {f g : D → D → Option D} {c : Expr} (ho : OpR X (compareOp op) r) (ho' : OpR X (compareOp op') r') (hs : OpS K r f) (hs' : OpS K r' g) (ha : XB K X a ma) (hb : XB K X b mb) (hc : XB K X c mc)
    (hm : lastMarks [op, op'] [b, c] = false := by with_unfolding_all rfl) : XE K X (.Compare a [op, op'] [b, c] pos) (mChain f g ma mb mc) := pe_imp (pe_chain ho ho' ha hb hc hm) fun _ _ _ h => rdChain hs hs' h
theorem t_chain {op op' : CmpOp} {r r' : R2} {f g : D → D → Option D} {c : Expr} (ho : OpR X (compareOp op) r) (ho' : OpR X (compareOp op') r') (hs : OpS K r f) (hs' : OpS K r' g) (ha : XB K X a ma) (hb : XB K X b mb) (hc : XB K X c mc)
    (hm : lastMarks [op, op'] [b, c] = false := by with_unfolding_all rfl) : XT K X (.Compare a [op, op'] [b, c] pos) (mT (mChain f g ma mb mc)) := pt_imp (pt_chain ho ho' ha hb hc hm) fun _ _ _ h => rdChain hs hs' (tT_tD h)

/-! ### and, or, not, if -/
def mAnd (a b : MB) : MB := fun s => (a s).bind fun x => if x = true then b s else some false
def mOr (a b : MB) : MB := fun s => (a s).bind fun x => if x = true then some true else b s
def mNot (a : MB) : MB := fun s => (a s).map (!·)
variable {ta tb : MB} {rest : List Expr}
theorem t_not (ha : XT K X a ta) : XT K X (.UnaryOp .Not a pos) (mNot ta) := pt_imp (pt_not ha) fun σ H Q ⟨H0, G, s, d, r, e, q⟩ => by
  unfold mNot at e
  cases hx : ta s with
  | none => rw [hx] at e; cases e
  | some x =>
    rw [hx] at e; cases e
    exact ⟨H0, G, s, x, r, hx, fun H' e1 => q H' e1⟩
theorem w_and (ha : XT K X a ta) (hb : XW K X (.BoolOp .And (b :: rest) pos) tb) : XW K X (.BoolOp .And (a :: b :: rest) pos) (mAnd ta tb) := pw_imp (pw_and ha hb) fun σ H Q ⟨H0, G, s, d, r, e, q⟩ => by
  obtain ⟨x, ex, e⟩ := some_bind e
  refine ⟨H0, G, s, x, r, ex, fun H1 e1 => ?_⟩
  cases x with
  | true =>
    rw [if_pos rfl] at e ⊢
    exact ⟨H0, G, s, d, r.mono e1, e, fun H2 e2 => q H2 (e1.trans e2)⟩
  | false =>
    rw [if_neg Bool.false_ne_true] at e ⊢
    cases e
    exact q H1 e1
theorem w_or (ha : XT K X a ta) (hb : XW K X (.BoolOp .Or (b :: rest) pos) tb) : XW K X (.BoolOp .Or (a :: b :: rest) pos) (mOr ta tb) := pw_imp (pw_or ha hb) fun σ H Q ⟨H0, G, s, d, r, e, q⟩ => by
  obtain ⟨x, ex, e⟩ := some_bind e
  refine ⟨H0, G, s, x, r, ex, fun H1 e1 => ?_⟩
  cases x with
  | false =>
    rw [if_neg Bool.false_ne_true] at e ⊢
    exact ⟨H0, G, s, d, r.mono e1, e, fun H2 e2 => q H2 (e1.trans e2)⟩
  | true =>
    rw [if_pos rfl] at e ⊢
    cases e
    exact q H1 e1
theorem w_and1 (ha : XT K X a ta) : XW K X (.BoolOp .And [a] pos) ta := pw_and1 ha
theorem w_or1 (ha : XT K X a ta) : XW K X (.BoolOp .Or [a] pos) ta := pw_or1 ha
theorem t_w (h : XW K X e ta) : XT K X e ta := h.pt
/-- .. as values, all but the last one bools -/
def mAndV (a b : M) : M := fun s => (a s).bind fun x => (boolOf x).bind fun t => if t = true then b s else some (.bool false)
def mOrV (a b : M) : M := fun s => (a s).bind fun x => (boolOf x).bind fun t => if t = true then some (.bool true) else b s
def mNotV (a : M) : M := fun s => (a s).bind fun x => (boolOf x).map fun t => .bool (!t)
theorem x_one {op} (h : XE K X a ma) : XE K X (.BoolOp op [a] pos) ma := pe_one h
theorem x_and (ha : XE K X a ma) (hb : XE K X (.BoolOp .And (b :: rest) pos) mb) : XE K X (.BoolOp .And (a :: b :: rest) pos) (mAndV ma mb) := pe_imp (pe_and ha hb) fun σ H Q ⟨H0, G, s, d, r, e, q⟩ => by
  obtain ⟨x, ex, e⟩ := some_bind e
  obtain ⟨t, et, e4⟩ := some_bind e
  clear e
  have e2 := boolOf_some et
  subst e2
  refine ⟨H0, G, s, _, r, ex, fun v H1 e1 rv => ?_⟩
  cases rv
  refine ⟨t, rfl, ?_⟩
  cases t with
  | true =>
    rw [if_pos rfl] at e4 ⊢
    exact ⟨H0, G, s, d, r.mono e1, e4, fun v H2 e2 => q v H2 (e1.trans e2)⟩
  | false =>
    rw [if_neg Bool.false_ne_true] at e4 ⊢
    cases e4
    exact q _ H1 e1 (.bl false)
theorem x_or (ha : XE K X a ma) (hb : XE K X (.BoolOp .Or (b :: rest) pos) mb) : XE K X (.BoolOp .Or (a :: b :: rest) pos) (mOrV ma mb) := pe_imp (pe_or ha hb) fun σ H Q ⟨H0, G, s, d, r, e, q⟩ => by
  obtain ⟨x, ex, e⟩ := some_bind e
  obtain ⟨t, et, e4⟩ := some_bind e
  clear e
  have e2 := boolOf_some et
  subst e2
  refine ⟨H0, G, s, _, r, ex, fun v H1 e1 rv => ?_⟩
  cases rv
  refine ⟨t, rfl, ?_⟩
  cases t with
  | false =>
    rw [if_neg Bool.false_ne_true] at e4 ⊢
    exact ⟨H0, G, s, d, r.mono e1, e4, fun v H2 e2 => q v H2 (e1.trans e2)⟩
  | true =>
    rw [if_pos rfl] at e4 ⊢
    cases e4
    exact q _ H1 e1 (.bl true)
theorem x_not (ha : XE K X a ma) : XE K X (.UnaryOp .Not a pos) (mNotV ma) := pe_imp (pe_not ha) fun σ H Q ⟨H0, G, s, d, r, e, q⟩ => by
  obtain ⟨x, ex, e⟩ := some_bind e
  cases hb : boolOf x with
  | none => rw [hb] at e; cases e
  | some t =>
    rw [hb] at e; cases e
    have e2 := boolOf_some hb
    subst e2
    refine ⟨H0, G, s, _, r, ex, fun v H1 e1 rv => ?_⟩
    cases rv
    exact ⟨t, rfl, q _ H1 e1 (.bl _)⟩
def mIf (c : MB) (a b : M) : M := fun s => (c s).bind fun x => if x = true then a s else b s
theorem x_if {c : Expr} (hc : XT K X c ta) (ha : XE K X a ma) (hb : XE K X b mb) : XE K X (.IfExp c a b pos) (mIf ta ma mb) := pe_imp (pe_ifExp hc ha hb) fun σ H Q ⟨H0, G, s, d, r, e, q⟩ => by
  obtain ⟨x, ex, e⟩ := some_bind e
  refine ⟨H0, G, s, x, r, ex, fun H1 e1 => ?_⟩
  cases x with
  | true =>
    rw [if_pos rfl] at e ⊢
    exact ⟨H0, G, s, d, r.mono e1, e, fun v H2 e2 => q v H2 (e1.trans e2)⟩
  | false =>
    rw [if_neg Bool.false_ne_true] at e ⊢
    exact ⟨H0, G, s, d, r.mono e1, e, fun v H2 e2 => q v H2 (e1.trans e2)⟩

theorem _root_.L2.HOk.free0 {P : Program} {w : World} {H : Hp} {h : Heap} (x : HOk P w H h) : H h.objs.size = none := x.fresh (Nat.le_refl _)
/-! ### argument lists, displays -/
def mNil : ML := fun _ => some []
def mCons (a : M) (r : ML) : ML := fun s => (a s).bind fun x => (r s).map (x :: ·)
variable {es : List Expr} {ms : ML}
theorem mCons_some {a : M} {r : ML} {s : S} {ds : List D} (h : mCons a r s = some ds) : ∃ x xs, a s = some x ∧ r s = some xs ∧ ds = x :: xs := by
  obtain ⟨x, ex, e⟩ := some_bind h
  cases hr : r s with
  | none => rw [hr] at e; cases e
  | some xs => rw [hr] at e; cases e; exact ⟨x, xs, ex, rfl, rfl⟩
theorem a_nil : XA K X [] mNil := pa_imp pa_nil fun σ H Q ⟨H0, G, s, d, r, e, q⟩ => by cases e; exact q [] H (Ex.refl _) .nil
theorem a_cons (ha : XE K X e ma) (hr : XA K X es ms) (hs : starEach (e :: es) X.env = (false, eval e X.env) :: starEach es X.env := by rfl) : XA K X (e :: es) (mCons ma ms) := pa_imp (pa_cons ha hr hs) fun σ H Q ⟨H0, G, s, d, r, e, q⟩ => by
  obtain ⟨x, xs, ex, exs, rfl⟩ := mCons_some e
  exact ⟨H0, G, s, x, r, ex, fun v H1 e1 rv => ⟨H0, G, s, xs, r.mono e1, exs, fun vs H2 e2 rvs => q (v :: vs) H2 (e1.trans e2) (.cons (rv.ex e2) rvs)⟩⟩
theorem ab_nil : XAb K X [] mNil := pa_imp pa_nil fun σ H Q ⟨H0, G, s, d, r, e, q⟩ => by cases e; exact q [] H (Ex.refl _) .nil
theorem ab_cons (ha : XB K X e ma) (hr : XAb K X es ms) (hs : starEach (e :: es) X.env = (false, eval e X.env) :: starEach es X.env := by rfl) : XAb K X (e :: es) (mCons ma ms) := pa_imp (pa_cons ha hr hs) fun σ H Q ⟨H0, G, s, d, r, e, q⟩ => by
  obtain ⟨x, xs, ex, exs, rfl⟩ := mCons_some e
  exact ⟨H0, G, s, x, r, ex, fun v H1 e1 rv => ⟨H0, G, s, xs, r.mono e1, exs, fun vs H2 e2 rvs => q (v :: vs) H2 (e1.trans e2) (.cons ((RB.any r e1 rv).ex e2) rvs)⟩⟩
theorem sz_le {n : Nat} (h : n ≤ 100000) : n ≤ sizeLine := Nat.le_trans h (by decide)
theorem sz_lt {n : Nat} (h : n < 100000) : n < sizeLine := Nat.lt_of_lt_of_le h (by decide)
def mTup (r : ML) : M := fun s => (r s).bind fun ds => if ds.length ≤ 100000 then some (.tuple ds) else none
def mLst (r : ML) : ML := fun s => (r s).bind fun ds => if ds.length ≤ 100000 then some ds else none
theorem if_some {α : Type} {c : Prop} [Decidable c] {x : Option α} {y : α} (h : (if c then x else none) = some y) : c ∧ x = some y := by
  by_cases hc : c
  · rw [if_pos hc] at h; exact ⟨hc, h⟩
  · rw [if_neg hc] at h; cases h
/-- a written tuple, known to its object -/
def tTupF (t : TA) : TE := fun σ H Q => t σ H fun xs H1 => xs.length ≤ sizeLine ∧ ∀ p o, H1 p = none → o.cls = .type "tuple" → o.dict = none → Q (.ref p) (upd H1 p (.frz o (.tup xs)))
theorem tup_laid {pins : List (Addr × Obj)} {σ : St} {H : Hp} {s : Shared} {xs : List V} {us : List Value} {t' : Nat} (I : Inv X pins σ H s) (r : Vals xs us) (z : xs.length ≤ sizeLine) :
    Inv X pins σ (upd H s.heap.objs.size (.frz { cls := .type "tuple", data := .seq us.toArray } (.tup xs))) { s with heap := s.heap.push { cls := .type "tuple", data := .seq us.toArray }, toks := t' } :=
  I.laid (fun _ _ q => Heap.get?_push_of_some _ q) (Nat.le_refl _) ⟨Heap.get?_push_size _ rfl, z, us, r, ⟨_, Heap.get?_push_size _ rfl, rfl, _, rfl⟩⟩
theorem pe_tupF {k1 : Nat} {t : TA} (h : PA X es t) : PE X (.Tuple es k1 pos) (tTupF t) := ⟨fun pins s σ H Q I hq => by
  refine wpAny_Tuple_spliced (thn (h.run pos pins s σ H _ I hq) fun us s1 hh => ?_)
  obtain ⟨xs, H1, I1, r, z, q⟩ := hh
  refine ⟨by rw [← r.length]; exact z, .ref s1.heap.objs.size, _, tup_laid (t' := s1.toks) I1 r z, rfl, q _ _ I1.hok.free0 rfl rfl⟩⟩
theorem x_tup {k1} (h : XA K X es ms) : XE K X (.Tuple es k1 pos) (mTup ms) := pe_imp (pe_tupF h) fun σ H Q ⟨H0, G, s, d, r, e, q⟩ => by
  obtain ⟨ds, ed, e⟩ := some_bind e
  obtain ⟨hl, e⟩ := if_some e
  cases e
  refine ⟨H0, G, s, ds, r, ed, fun vs H1 e1 rv => ⟨sz_le (by rw [rv.length]; exact hl), fun p o hp hc hd => ?_⟩⟩
  exact q _ _ (e1.trans (Ex.new hp)) (.tup (.inl ⟨o, upd_same, hc, hd⟩) (rv.ex (Ex.new hp)))
theorem l_lst (h : XA K X es ms) : XL K X (.List es pos) (mLst ms) := pe_imp (pe_lst h) fun σ H Q ⟨H0, G, s, d, r, e, q⟩ => by
  obtain ⟨ds, ed, e⟩ := some_bind e
  obtain ⟨hl, e⟩ := if_some e
  cases e
  refine ⟨H0, G, s, _, r, ed, fun vs H1 e1 rv => ⟨sz_le (by rw [rv.length]; exact hl), fun p hp => ?_⟩⟩
  exact q p vs _ (e1.back hp) (e1.trans (Ex.new hp)) upd_same ((rv.free hp).ex (Ex.new hp))
end
end
end DD

namespace DD
variable [LTb]
open PySem L2
section
variable {K : Fg} {X : Cx}
/-! ### what plain operators do to data -/
def fInt (C : Int → Int → Prop) [∀ i j, Decidable (C i j)] (g : Int → Int → D) : D → D → Option D
  | .int i, .int j => if C i j then some (g i j) else none
  | _, _ => none
theorem os_int0 {g : Int → Int → V} {f : Int → Int → D} (h : ∀ (H : Hp) i j, R K (fun _ => False) H (g i j) (f i j)) : OpS K (rI0 g) (fInt (fun _ _ => True) f) := by
  intro H x y d e z rx ry hz
  cases d <;> try (simp [fInt] at hz)
  cases e <;> try (simp [fInt] at hz)
  subst hz
  cases rx; cases ry
  exact ⟨_, h H _ _, fun Q q => ⟨_, _, rfl, rfl, q⟩⟩
theorem os_int {C : Int → Int → Prop} [∀ i j, Decidable (C i j)] {g : Int → Int → V} {f : Int → Int → D} (h : ∀ (H : Hp) i j, R K (fun _ => False) H (g i j) (f i j)) : OpS K (rI C g) (fInt C f) := by
  intro H x y d e z rx ry hz
  cases d <;> try (simp [fInt] at hz)
  cases e <;> try (simp [fInt] at hz)
  obtain ⟨hc, rfl⟩ := hz
  cases rx; cases ry
  exact ⟨_, h H _ _, fun Q q => ⟨_, _, rfl, rfl, hc, q⟩⟩
/-- the first of two that answers -/
def fOr (f g : D → D → Option D) : D → D → Option D := fun d e => (f d e).orElse fun _ => g d e
theorem os_or {r r' : R2} {f g : D → D → Option D} (h : OpS K r f) (h' : OpS K r' g) : OpS K (fun x y H Q => r x y H Q ∨ r' x y H Q) (fOr f g) := by
  intro H x y d e z rx ry hz
  unfold fOr at hz
  cases hf : f d e with
  | some z' =>
    rw [hf] at hz
    have e1 : z' = z := Option.some.inj hz
    subst e1
    obtain ⟨v, hv, k⟩ := h H x y d e z' rx ry hf
    exact ⟨v, hv, fun Q q => .inl (k Q q)⟩
  | none =>
    rw [hf] at hz
    obtain ⟨v, hv, k⟩ := h' H x y d e z rx ry hz
    exact ⟨v, hv, fun Q q => .inr (k Q q)⟩
instance {i j : Int} : Decidable (CMul i j) := by unfold CMul; exact inferInstance
instance {i j : Int} : Decidable (CDiv i j) := by unfold CDiv; exact inferInstance
instance {i j : Int} : Decidable (CPow i j) := by unfold CPow; exact inferInstance
theorem lay_append {x y : Str} (hx : (PyData.str x).canLay0 = true) (hy : (PyData.str y).canLay0 = true) : (PyData.str (x ++ y)).canLay0 = true := by
  simp only [PyData.canLay0, PyData.strOk] at hx hy ⊢
  show (x.cps ++ y.cps).all _ = true
  rw [Array.all_append, hx, hy]; rfl
def fAddS : D → D → Option D
  | .str x, .str y => if x.length + y.length ≤ 100000 then some (.str (x ++ y)) else none
  | _, _ => none
abbrev fAddI := fInt (fun _ _ => True) fun i j => .int (i + j)
abbrev fAdd := fOr fAddI fAddS
abbrev fSub := fInt (fun _ _ => True) fun i j => .int (i - j)
abbrev fMul := fInt CMul fun i j => .int (i * j)
abbrev fDiv := fInt CDiv fun i j => .int (i / j)
abbrev fMod := fInt (fun _ j => 0 < j) fun i j => .int (i % j)
abbrev fPow := fInt CPow fun i j => .int (i ^ j.toNat)
variable {a b e : Expr} {ma mb : M} {pos : Pos}
theorem x_add (ha : XB K X a ma) (hb : XB K X b mb) : XE K X (.BinOp a .Add b pos) (m2 fAdd ma mb) := by
  refine x_op (op_add.or op_add_str) (os_or (os_int0 fun _ _ _ => .int _) ?_) ha hb
  intro H x y d e z rx ry hz
  cases d <;> try (simp [fAddS] at hz)
  cases e <;> try (simp [fAddS] at hz)
  obtain ⟨hc, rfl⟩ := hz
  cases rx with
  | str hx =>
    cases ry with
    | str hy => exact ⟨_, .str (lay_append hx hy), fun Q q => ⟨_, _, rfl, rfl, sz_le hc, q⟩⟩
theorem x_sub (ha : XB K X a ma) (hb : XB K X b mb) : XE K X (.BinOp a .Sub b pos) (m2 fSub ma mb) := x_op op_sub (os_int0 fun _ _ _ => .int _) ha hb
theorem x_mul (ha : XB K X a ma) (hb : XB K X b mb) : XE K X (.BinOp a .Mult b pos) (m2 fMul ma mb) := x_op op_mul (os_int fun _ _ _ => .int _) ha hb
theorem x_fdiv (ha : XB K X a ma) (hb : XB K X b mb) : XE K X (.BinOp a .FloorDiv b pos) (m2 fDiv ma mb) := x_op op_fdiv (os_int fun _ _ _ => .int _) ha hb
theorem x_mod (ha : XB K X a ma) (hb : XB K X b mb) : XE K X (.BinOp a .Mod b pos) (m2 fMod ma mb) := x_op op_mod (os_int fun _ _ _ => .int _) ha hb
theorem x_pow (ha : XB K X a ma) (hb : XB K X b mb) : XE K X (.BinOp a .Pow b pos) (m2 fPow ma mb) := x_op op_pow (os_int fun _ _ _ => .int _) ha hb
def fNeg : D → Option D
  | .int i => some (.int (-i))
  | _ => none
theorem x_neg (ha : XB K X a ma) : XE K X (.UnaryOp .USub a pos) (m1 fNeg ma) := by
  refine x_un un_neg ?_ ha
  intro H x d z rx hz
  cases d <;> simp [fNeg] at hz
  subst hz
  cases rx
  exact ⟨_, .int _, fun Q q => ⟨_, rfl, q⟩⟩
/-! ### comparisons -/
def intsOf : List D → Option (List Int)
  | [] => some []
  | .int i :: r => (intsOf r).map (i :: ·)
  | _ => none
theorem intsOf_some : ∀ {ds : List D} {ns : List Int}, intsOf ds = some ns → ds = ns.map .int
  | [], ns, h => by cases h; rfl
  | d :: ds, ns, h => by
    cases d <;> simp [intsOf] at h
    obtain ⟨r, hr, rfl⟩ := h
    rw [intsOf_some hr]; rfl
theorem intsOf_map (ns : List Int) : intsOf (ns.map .int) = some ns := by
  induction ns with
  | nil => rfl
  | cons n ns ih => simp [intsOf, ih]
theorem RA.ints {B : Addr → Prop} {H : Hp} : ∀ {ns : List Int} {vs : List V}, RA K B H vs (ns.map .int) → vs = ns.map V.int
  | [], _, h => by cases h; rfl
  | n :: ns, _, h => by
    cases h with
    | cons h1 h2 => cases h1; rw [RA.ints h2]; rfl
def fLtT : D → D → Option D
  | .tuple xs, .tuple ys => (intsOf xs).bind fun ns => (intsOf ys).map fun ms => .bool (HT.lexLt ns ms)
  | _, _ => none
def fLtS : D → D → Option D
  | .str x, .str y => some (.bool (decide (x.cps.toList < y.cps.toList)))
  | _, _ => none
abbrev fLt := fOr (fInt (fun _ _ => True) fun i j => .bool (decide (i < j))) (fOr fLtT fLtS)
abbrev fLe := fInt (fun _ _ => True) fun i j => .bool (decide (i ≤ j))
abbrev fGt := fInt (fun _ _ => True) fun i j => .bool (decide (j < i))
abbrev fGe := fInt (fun _ _ => True) fun i j => .bool (decide (j ≤ i))
theorem os_lt : OpS K (fun x y H Q => rI0 (fun i j => .bl (decide (i < j))) x y H Q ∨ (rLtT K x y H Q ∨ (∃ i j, x = .str i ∧ y = .str j ∧ Q (.bl (decide (i.cps.toList < j.cps.toList))) H))) fLt := by
  refine os_or (os_int0 fun _ _ _ => .bl _) (os_or ?_ ?_)
  · intro H x y d e z rx ry hz
    unfold fLtT at hz
    split at hz
    case h_2 => cases hz
    obtain ⟨ns, hn, hz⟩ := some_bind hz
    obtain ⟨ms, hm, rfl⟩ := Option.map_eq_some_iff.mp hz
    have en := intsOf_some hn
    have em := intsOf_some hm
    subst en em
    cases rx with
    | tup hx ax =>
      cases ry with
      | tup hy ay =>
        rw [RA.ints ax] at hx
        rw [RA.ints ay] at hy
        exact ⟨_, .bl _, fun Q q => ⟨_, _, ns, ms, rfl, rfl, hx.sqt, hy.sqt, q⟩⟩
  · intro H x y d e z rx ry hz
    unfold fLtS at hz
    split at hz
    case h_2 => cases hz
    cases hz
    cases rx; cases ry
    exact ⟨_, .bl _, fun Q q => ⟨_, _, rfl, rfl, q⟩⟩
theorem or_lt {k : Nat} (hK : X.K = K) (hr : Room k X.A) : OpR X (compareOp .Lt) (fun x y H Q => rI0 (fun i j => .bl (decide (i < j))) x y H Q ∨ (rLtT K x y H Q ∨ (∃ i j, x = .str i ∧ y = .str j ∧ Q (.bl (decide (i.cps.toList < j.cps.toList))) H))) := by
  subst hK
  exact op_lt.or ((op_ltT hr.units0).or op_lt_str)
/-- the plain orders, as values and as tests -/
theorem x_lt {k : Nat} (hK : X.K = K) (hr : Room k X.A) (ha : XB K X a ma) (hb : XB K X b mb) : XE K X (.Compare a [.Lt] [b] pos) (m2 fLt ma mb) := x_cmp (or_lt hK hr) os_lt ha hb (nomark _)
theorem t_lt {k : Nat} (hK : X.K = K) (hr : Room k X.A) (ha : XB K X a ma) (hb : XB K X b mb) : XT K X (.Compare a [.Lt] [b] pos) (mT (m2 fLt ma mb)) := t_cmp (or_lt hK hr) os_lt ha hb (nomark _)
theorem os_le : OpS K (rI0 fun i j => .bl (decide (i ≤ j))) fLe := os_int0 fun _ _ _ => .bl _
theorem os_gt : OpS K (rI0 fun i j => .bl (decide (j < i))) fGt := os_int0 fun _ _ _ => .bl _
theorem os_ge : OpS K (rI0 fun i j => .bl (decide (j ≤ i))) fGe := os_int0 fun _ _ _ => .bl _
theorem x_le (ha : XB K X a ma) (hb : XB K X b mb) : XE K X (.Compare a [.LtE] [b] pos) (m2 fLe ma mb) := x_cmp op_le os_le ha hb (nomark _)
theorem x_gt (ha : XB K X a ma) (hb : XB K X b mb) : XE K X (.Compare a [.Gt] [b] pos) (m2 fGt ma mb) := x_cmp op_gt os_gt ha hb (nomark _)
theorem x_ge (ha : XB K X a ma) (hb : XB K X b mb) : XE K X (.Compare a [.GtE] [b] pos) (m2 fGe ma mb) := x_cmp op_ge os_ge ha hb (nomark _)
theorem t_le (ha : XB K X a ma) (hb : XB K X b mb) : XT K X (.Compare a [.LtE] [b] pos) (mT (m2 fLe ma mb)) := t_cmp op_le os_le ha hb (nomark _)
theorem t_gt (ha : XB K X a ma) (hb : XB K X b mb) : XT K X (.Compare a [.Gt] [b] pos) (mT (m2 fGt ma mb)) := t_cmp op_gt os_gt ha hb (nomark _)
theorem t_ge (ha : XB K X a ma) (hb : XB K X b mb) : XT K X (.Compare a [.GtE] [b] pos) (mT (m2 fGe ma mb)) := t_cmp op_ge os_ge ha hb (nomark _)
/-- ==, != of data -/
def fEq : D → D → Option D := fun d e => if min d.depth e.depth ≤ 64 ∧ plainD d = true ∧ plainD e = true then some (.bool (PyData.eqv d e)) else none
def fNe : D → D → Option D := fun d e => if min d.depth e.depth ≤ 64 ∧ plainD d = true ∧ plainD e = true then some (.bool (!PyData.eqv d e)) else none
def rEqR (K : Fg) (n : Bool) : R2 := fun x y H Q => ∃ d e, Dp K H x d ∧ Dp K H y e ∧ d.canLay0 = true ∧ e.canLay0 = true ∧ min d.depth e.depth ≤ 64 ∧ Q (.bl (if n then !PyData.eqv d e else PyData.eqv d e)) H
theorem op_eqR {k : Nat} (hK : X.K = K) (hr : Room k X.A) : OpR X (compareOp .Eq) (rEqR K false) := by
  subst hK
  intro pins s σ H x y v u Q I rx ry h
  obtain ⟨d, e, hd, he, sd, se, hm, q⟩ := h
  obtain ⟨as, r1⟩ := Dp.reads I d x v hd rx
  obtain ⟨bs, r2⟩ := Dp.reads I e y u he ry
  exact SeqAt.compareEq_reads r1 r2 sd se (by have := hr.units; omega) ⟨.bl _, H, I, rfl, q⟩
theorem op_neR {k : Nat} (hK : X.K = K) (hr : Room k X.A) : OpR X (compareOp .NotEq) (rEqR K true) := by
  subst hK
  intro pins s σ H x y v u Q I rx ry h
  obtain ⟨d, e, hd, he, sd, se, hm, q⟩ := h
  obtain ⟨as, r1⟩ := Dp.reads I d x v hd rx
  obtain ⟨bs, r2⟩ := Dp.reads I e y u he ry
  exact SeqAt.compareNe_reads r1 r2 sd se (by have := hr.units; omega) ⟨.bl _, H, I, rfl, q⟩
theorem os_eq : OpS K (rEqR K false) fEq := by
  intro H x y d e z rx ry hz
  obtain ⟨⟨hc, pd, pe⟩, hz⟩ := if_some hz
  cases hz
  exact ⟨_, .bl _, fun Q q => ⟨d, e, R.dp _ _ pd rx, R.dp _ _ pe ry, R.lay _ _ pd rx, R.lay _ _ pe ry, hc, q⟩⟩
theorem os_ne : OpS K (rEqR K true) fNe := by
  intro H x y d e z rx ry hz
  obtain ⟨⟨hc, pd, pe⟩, hz⟩ := if_some hz
  cases hz
  exact ⟨_, .bl _, fun Q q => ⟨d, e, R.dp _ _ pd rx, R.dp _ _ pe ry, R.lay _ _ pd rx, R.lay _ _ pe ry, hc, q⟩⟩
theorem x_eq {k : Nat} (hK : X.K = K) (hr : Room k X.A) (ha : XB K X a ma) (hb : XB K X b mb) : XE K X (.Compare a [.Eq] [b] pos) (m2 fEq ma mb) := x_cmp (op_eqR hK hr) os_eq ha hb (nomark _)
theorem t_eq {k : Nat} (hK : X.K = K) (hr : Room k X.A) (ha : XB K X a ma) (hb : XB K X b mb) : XT K X (.Compare a [.Eq] [b] pos) (mT (m2 fEq ma mb)) := t_cmp (op_eqR hK hr) os_eq ha hb (nomark _)
theorem x_ne {k : Nat} (hK : X.K = K) (hr : Room k X.A) (ha : XB K X a ma) (hb : XB K X b mb) : XE K X (.Compare a [.NotEq] [b] pos) (m2 fNe ma mb) := x_cmp (op_neR hK hr) os_ne ha hb (nomark _)
theorem t_ne {k : Nat} (hK : X.K = K) (hr : Room k X.A) (ha : XB K X a ma) (hb : XB K X b mb) : XT K X (.Compare a [.NotEq] [b] pos) (mT (m2 fNe ma mb)) := t_cmp (op_neR hK hr) os_ne ha hb (nomark _)
/-- is None, is not None -/
def isNone : D → Bool
  | .none => true
  | _ => false
def fIsN : D → D → Option D := fun d e => if isNone e = true then some (.bool (isNone d)) else none
def fNotN : D → D → Option D := fun d e => if isNone e = true then some (.bool (!isNone d)) else none
theorem isN_R {B : Addr → Prop} {H : Hp} {v : V} {d : D} (h : R K B H v d) : decide (v = .non) = isNone d := by cases h <;> simp [isNone]
def rIsNo : R2 := fun x y H Q => y = .non ∧ Q (.bl (decide (x = .non))) H
def rNotNo : R2 := fun x y H Q => y = .non ∧ Q (.bl (!decide (x = .non))) H
theorem os_isN : OpS K rIsNo fIsN := by
  intro H x y d e z rx ry hz
  obtain ⟨hc, hz⟩ := if_some hz
  cases hz
  have e1 := isN_R ry
  rw [hc] at e1
  have e2 := of_decide_eq_true e1
  exact ⟨.bl (decide (x = .non)), by rw [isN_R rx]; exact .bl _, fun Q q => ⟨e2, q⟩⟩
theorem os_notN : OpS K rNotNo fNotN := by
  intro H x y d e z rx ry hz
  obtain ⟨hc, hz⟩ := if_some hz
  cases hz
  have e1 := isN_R ry
  rw [hc] at e1
  have e2 := of_decide_eq_true e1
  exact ⟨.bl (!decide (x = .non)), by rw [isN_R rx]; exact .bl _, fun Q q => ⟨e2, q⟩⟩
theorem x_isN (ha : XB K X a ma) (hb : XB K X b mb) : XE K X (.Compare a [.Is] [b] pos) (m2 fIsN ma mb) := x_cmp op_isN os_isN ha hb (nomark _)
theorem t_isN (ha : XB K X a ma) (hb : XB K X b mb) : XT K X (.Compare a [.Is] [b] pos) (mT (m2 fIsN ma mb)) := t_cmp op_isN os_isN ha hb (nomark _)
theorem x_notN (ha : XB K X a ma) (hb : XB K X b mb) : XE K X (.Compare a [.IsNot] [b] pos) (m2 fNotN ma mb) := x_cmp op_notN os_notN ha hb (nomark _)
theorem t_notN (ha : XB K X a ma) (hb : XB K X b mb) : XT K X (.Compare a [.IsNot] [b] pos) (mT (m2 fNotN ma mb)) := t_cmp op_notN os_notN ha hb (nomark _)
/-- in, not in, of a list or a tuple -/
def fIn (n : Bool) : D → D → Option D := fun d e =>
  match e with
  | .list ds => if min (PyData.depthAll ds) d.depth ≤ 60 ∧ plainD d = true ∧ plainD.go ds = true then some (.bool (if n then !ds.any fun z => PyData.eqv z d else ds.any fun z => PyData.eqv z d)) else none
  | .tuple ds => if min (PyData.depthAll ds) d.depth ≤ 60 ∧ plainD d = true ∧ plainD.go ds = true then some (.bool (if n then !ds.any fun z => PyData.eqv z d else ds.any fun z => PyData.eqv z d)) else none
  | _ => none
def rInR (K : Fg) (n : Bool) : R2 := fun x y H Q => ∃ d ds, Dp K H x d ∧ (Dp K H y (.list ds) ∨ Dp K H y (.tuple ds)) ∧ d.canLay0 = true ∧ PyData.canLayAll0 ds = true ∧ min (PyData.depthAll ds) d.depth ≤ 60 ∧ Q (.bl (if n then !ds.any fun z => PyData.eqv z d else ds.any fun z => PyData.eqv z d)) H
theorem op_inR {k : Nat} (hK : X.K = K) (hr : Room k X.A) : OpR X (compareOp .In) (rInR K false) := by
  subst hK
  intro pins s σ H x y v u Q I rx ry h
  obtain ⟨d, ds, hd, he, sd, se, hm, q⟩ := h
  obtain ⟨as, r1⟩ := Dp.reads I d x v hd rx
  have hu : X.A.units + 1 + min (PyData.depthAll ds) d.depth < cLine := by have := hr.units; omega
  rcases he with he | he
  · obtain ⟨bs, r2⟩ := Dp.reads I _ y u he ry
    exact SeqAt.in_list_reads r2 r1 se sd hu ⟨.bl _, H, I, rfl, q⟩
  · obtain ⟨bs, r2⟩ := Dp.reads I _ y u he ry
    exact SeqAt.in_tuple_reads r2 r1 se sd hu ⟨.bl _, H, I, rfl, q⟩
theorem op_notInR {k : Nat} (hK : X.K = K) (hr : Room k X.A) : OpR X (compareOp .NotIn) (rInR K true) := by
  subst hK
  intro pins s σ H x y v u Q I rx ry h
  obtain ⟨d, ds, hd, he, sd, se, hm, q⟩ := h
  obtain ⟨as, r1⟩ := Dp.reads I d x v hd rx
  have hu : X.A.units + 1 + min (PyData.depthAll ds) d.depth < cLine := by have := hr.units; omega
  rcases he with he | he
  · obtain ⟨bs, r2⟩ := Dp.reads I _ y u he ry
    exact SeqAt.notIn_list_reads r2 r1 se sd hu ⟨.bl _, H, I, rfl, q⟩
  · obtain ⟨bs, r2⟩ := Dp.reads I _ y u he ry
    exact SeqAt.notIn_tuple_reads r2 r1 se sd hu ⟨.bl _, H, I, rfl, q⟩
theorem os_in {n : Bool} : OpS K (rInR K n) (fIn n) := by
  intro H x y d e z rx ry hz
  cases e with
  | list ds =>
    obtain ⟨⟨hc, pd, pe⟩, hz⟩ := if_some hz
    cases hz
    have pe' : plainD (.list ds) = true := by simpa only [plainD] using pe
    have := R.lay _ _ pe' ry
    simp only [PyData.canLay0] at this
    exact ⟨_, .bl _, fun Q q => ⟨d, ds, R.dp _ _ pd rx, .inl (R.dp _ _ pe' ry), R.lay _ _ pd rx, this, hc, q⟩⟩
  | tuple ds =>
    obtain ⟨⟨hc, pd, pe⟩, hz⟩ := if_some hz
    cases hz
    have pe' : plainD (.tuple ds) = true := by simpa only [plainD] using pe
    have := R.lay _ _ pe' ry
    simp only [PyData.canLay0] at this
    exact ⟨_, .bl _, fun Q q => ⟨d, ds, R.dp _ _ pd rx, .inr (R.dp _ _ pe' ry), R.lay _ _ pd rx, this, hc, q⟩⟩
  | _ => cases hz
theorem x_in {k : Nat} (hK : X.K = K) (hr : Room k X.A) (ha : XB K X a ma) (hb : XB K X b mb) (hm : behindInMarks .In b = false := by rfl) : XE K X (.Compare a [.In] [b] pos) (m2 (fIn false) ma mb) := x_cmp (op_inR hK hr) os_in ha hb hm
theorem t_in {k : Nat} (hK : X.K = K) (hr : Room k X.A) (ha : XB K X a ma) (hb : XB K X b mb) (hm : behindInMarks .In b = false := by rfl) : XT K X (.Compare a [.In] [b] pos) (mT (m2 (fIn false) ma mb)) := t_cmp (op_inR hK hr) os_in ha hb hm
theorem x_notIn {k : Nat} (hK : X.K = K) (hr : Room k X.A) (ha : XB K X a ma) (hb : XB K X b mb) (hm : behindInMarks .NotIn b = false := by rfl) : XE K X (.Compare a [.NotIn] [b] pos) (m2 (fIn true) ma mb) := x_cmp (op_notInR hK hr) os_in ha hb hm
theorem t_notIn {k : Nat} (hK : X.K = K) (hr : Room k X.A) (ha : XB K X a ma) (hb : XB K X b mb) (hm : behindInMarks .NotIn b = false := by rfl) : XT K X (.Compare a [.NotIn] [b] pos) (mT (m2 (fIn true) ma mb)) := t_cmp (op_notInR hK hr) os_in ha hb hm
end
end DD

namespace DD
variable [LTb]
open PySem L2
/-! ### items and slices -/
def fIx : D → D → Option D
  | .list ds, .int i => atI ds i
  | .tuple ds, .int i => atI ds i
  | .str z, .int i => if z.length ≤ 100000 then (atI z.cps.toList i).map fun c => .str ⟨#[c]⟩ else none
  | _, _ => none
section
variable {K : Fg} {X : Cx} {B : Addr → Prop} {H : Hp}
theorem RA.atI {ds : List D} {vs : List V} {i : Int} {d : D} (h : RA K B H vs ds) (e : L2.atI ds i = some d) : ∃ v, L2.atI vs i = some v ∧ R K B H v d := by
  unfold L2.atI at e ⊢
  rw [h.length]
  obtain ⟨j, hj, e⟩ := some_bind e
  obtain ⟨v, hv, r⟩ := h.get e
  exact ⟨v, by rw [hj]; exact hv, r⟩
/-- what a borrowed list or tuple holds is clean -/
theorem RB.items {H0 : Hp} {G : Addr → Prop} {σ : St} {s : S} {H' : Hp} {v : V} {ds : List D} (r : RS K H0 G σ H s) (e : Ex H H') (h : RB K G σ s H' v (.list ds)) : ∃ a xs, v = .ref a ∧ SqL K H' a xs ∧ RA K (Cl G σ s) H' xs ds := by
  rcases h with h | ⟨i, es, h1, h2, h3⟩
  · cases h with
    | lst hr ha => exact ⟨_, _, rfl, hr.sql, ha⟩
  · cases es with
    | dic _ => cases h3
    | lst es =>
      cases h3
      obtain ⟨a, xs, e1, e2, _, _, e3⟩ := (r.mono e).owL i _ h1
      rw [h2] at e1; cases e1
      exact ⟨a, xs, rfl, .inl (.inl e2), e3⟩
theorem RB.itemsT {G : Addr → Prop} {σ : St} {s : S} {H' : Hp} {v : V} {ds : List D} (h : RB K G σ s H' v (.tuple ds)) : ∃ a xs, v = .ref a ∧ TupX K H' a xs ∧ RA K (Cl G σ s) H' xs ds := by
  rcases h with h | ⟨i, es, h1, h2, h3⟩
  · cases h with
    | tup hr ha => exact ⟨_, _, rfl, hr, ha⟩
  · cases es <;> cases h3
theorem RB.plain {G : Addr → Prop} {σ : St} {s : S} {H' : Hp} {v : V} {d : D} (h : RB K G σ s H' v d) (nl : ∀ ds, d ≠ .list ds) (nd : ∀ kvs, d ≠ .dict kvs := by intro _ z; cases z) : R K (Cl G σ s) H' v d := by
  rcases h with h | ⟨i, es, h1, h2, h3⟩
  · exact h
  · cases es with
    | lst _ => exact (nl _ h3).elim
    | dic _ => exact (nd _ h3).elim
theorem Ex.sql {a : Addr} {xs : List V} {H' : Hp} (e : Ex H H') (h : SqL K H a xs) : SqL K H' a xs := h.elim (fun q => .inl (e.rd q)) .inr
theorem atI_mem {α : Type} {xs : List α} {i : Int} {c : α} (h : L2.atI xs i = some c) : c ∈ xs := by
  unfold L2.atI at h
  obtain ⟨j, hj, e⟩ := some_bind h
  exact List.mem_of_getElem? e
theorem lay_code {z : Str} {c : Nat} (h : (PyData.str z).canLay0 = true) (hc : c ∈ z.cps.toList) : (PyData.str ⟨#[c]⟩).canLay0 = true := by
  simp only [PyData.canLay0, PyData.strOk, Array.all_eq_true'] at h ⊢
  intro x hx
  have : x = c := by simpa using hx
  subst this
  exact h x (by simpa using hc)
variable {a b e : Expr} {ma mb : M} {pos : Pos}
theorem x_ix (hK : X.K = K) (ha : XB K X a ma) (hb : XB K X b mb) (hs : PlainIx b := by exact fun _ _ => rfl) : XE K X (.Subscript a b pos) (m2 fIx ma mb) := by
  subst hK
  refine pe_imp (pe_ix ix_seq ha hb hs) fun σ H Q ⟨H0, G, s, d, rs, e, q⟩ => ?_
  obtain ⟨x, ex, e⟩ := some_bind e
  obtain ⟨y, ey, ez⟩ := some_bind e
  refine ⟨H0, G, s, x, rs, ex, fun v H1 e1 rv => ⟨H0, G, s, y, rs.mono e1, ey, fun u H2 e2 ru => ?_⟩⟩
  unfold fIx at ez
  split at ez
  · rename_i ds i
    obtain ⟨p, xs, rfl, hr, ra⟩ := RB.items rs e1 rv
    cases ru.plain (fun _ h => nomatch h)
    obtain ⟨w, hw, rw'⟩ := ra.atI ez
    exact .inl ⟨p, xs, i, w, rfl, rfl, e2.sql hr, hw, q w H2 (e1.trans e2) (rw'.ex e2)⟩
  · rename_i ds i
    obtain ⟨p, xs, rfl, hr, ra⟩ := RB.itemsT rv
    cases ru.plain (fun _ h => nomatch h)
    obtain ⟨w, hw, rw'⟩ := ra.atI ez
    exact .inr (.inl ⟨p, xs, i, w, rfl, rfl, (e2.sqt hr).sqt, hw, q w H2 (e1.trans e2) (rw'.ex e2)⟩)
  · rename_i z i
    obtain ⟨hl, ez⟩ := if_some ez
    obtain ⟨c, hc, rfl⟩ := Option.map_eq_some_iff.mp ez
    cases ru.plain (fun _ h => nomatch h)
    have rz := rv.plain (fun _ h => nomatch h)
    cases rz with
    | str lz => exact .inr (.inr ⟨z, i, c, rfl, rfl, sz_le hl, hc, q _ H2 (e1.trans e2) (.str (lay_code lz (atI_mem hc)))⟩)
  · cases ez

/-! ### slices -/
abbrev MO := S → Option (Option Int)
def tO (K : Fg) (m : MO) : TO := fun σ H Q => ∃ H0 G s o, RS K H0 G σ H s ∧ m s = some o ∧ ∀ H', Ex H H' → Q o H'
abbrev XO (K : Fg) (X : Cx) (e : Option Expr) (m : MO) := PO X e (tO K m)
def oNone : MO := fun _ => some none
def intOf : D → Option Int
  | .int i => some i
  | _ => none
theorem intOf_some {d : D} {i : Int} (h : intOf d = some i) : d = .int i := by cases d <;> simp [intOf] at h; rw [h]
def oSome (m : M) : MO := fun s => (m s).bind fun d => (intOf d).map some
theorem o_none : XO K X none oNone := po_imp po_none fun σ H Q ⟨H0, G, s, o, r, e, q⟩ => by cases e; exact q H (Ex.refl _)
theorem o_some (h : XB K X e ma) : XO K X (some e) (oSome ma) := po_imp (po_some h) fun σ H Q ⟨H0, G, s, o, r, e, q⟩ => by
  obtain ⟨d, ed, e⟩ := some_bind e
  obtain ⟨i, hi, rfl⟩ := Option.map_eq_some_iff.mp e
  have := intOf_some hi
  subst this
  refine ⟨H0, G, s, _, r, ed, fun v H1 e1 rv => ?_⟩
  cases rv.plain (fun _ h => nomatch h)
  exact ⟨i, rfl, q H1 e1⟩
def cutD {α : Type} (xs : List α) (lo hi : Option Int) : List α := (xs.drop (HT.sIx xs.length 0 lo)).take (HT.sIx xs.length xs.length hi - HT.sIx xs.length 0 lo)
theorem RA.cut {ds : List D} {vs : List V} (h : RA K B H vs ds) (lo hi : Option Int) : RA K B H (cutV vs lo hi) (cutD ds lo hi) := by
  unfold cutV cutD
  rw [h.length]
  exact (h.drop _).take _
variable {lo hi : Option Expr} {ml mh : MO} {p2 : Pos}
def fList : D → Option (List D)
  | .list ds => some ds
  | _ => none
theorem fList_some {d : D} {ds : List D} (h : fList d = some ds) : d = .list ds := by cases d <;> simp [fList] at h; rw [h]
def fTup : D → Option (List D)
  | .tuple ds => some ds
  | _ => none
theorem fTup_some {d : D} {ds : List D} (h : fTup d = some ds) : d = .tuple ds := by cases d <;> simp [fTup] at h; rw [h]
def mCutL (m : M) (lo hi : MO) : ML := fun s => (m s).bind fun d => (fList d).bind fun ds => (lo s).bind fun l => (hi s).map fun u => cutD ds l u
def mCutT (m : M) (lo hi : MO) : M := fun s => (m s).bind fun d => (fTup d).bind fun ds => (lo s).bind fun l => (hi s).map fun u => .tuple (cutD ds l u)
theorem l_cut (hK : X.K = K) (ha : XB K X a ma) (hl : XO K X lo ml) (hh : XO K X hi mh) : XL K X (.Subscript a (.Slice lo hi none p2) pos) (mCutL ma ml mh) := by
  subst hK
  refine pe_imp (pe_slice sl_list ha hl hh) fun σ H Q ⟨H0, G, s, d, rs, e, q⟩ => ?_
  obtain ⟨x, ex, e⟩ := some_bind e
  obtain ⟨ds, ed, e⟩ := some_bind e
  obtain ⟨l, el, e⟩ := some_bind e
  obtain ⟨u, eu, rfl⟩ := Option.map_eq_some_iff.mp e
  have := fList_some ed
  subst this
  refine ⟨H0, G, s, _, rs, ex, fun v H1 e1 rv => ⟨H0, G, s, l, rs.mono e1, el, fun H2 e2 => ⟨H0, G, s, u, rs.mono (e1.trans e2), eu, fun H3 e3 => ?_⟩⟩⟩
  obtain ⟨p, xs, rfl, hr, ra⟩ := RB.items rs e1 rv
  have e23 := e2.trans e3
  refine ⟨p, xs, rfl, e23.sql hr, fun p' hp => ?_⟩
  have e13 := e1.trans e23
  exact q p' _ _ (e13.back hp) (e13.trans (Ex.new hp)) upd_same ((((ra.ex e23).cut l u).free hp).ex (Ex.new hp))
/-- t[lo:hi] of a tuple: the whole of it is t itself -/
def rCutF (K : Fg) : V → Option Int → Option Int → Hp → VK → Prop := fun x lo hi H Q => ∃ a xs, x = .ref a ∧ SqT K H a xs ∧
  (HT.sIx xs.length 0 lo = 0 ∧ HT.sIx xs.length xs.length hi = xs.length → Q (.ref a) H) ∧ (¬ (HT.sIx xs.length 0 lo = 0 ∧ HT.sIx xs.length xs.length hi = xs.length) → ∀ p o, H p = none → o.cls = .type "tuple" → o.dict = none → Q (.ref p) (upd H p (.frz o (.tup (cutV xs lo hi)))))
theorem sl_cutF : SlR X (rCutF X.K) := fun pins s σ H x v vl vu lo hi sl Q I rx hs pl pu h => by
  obtain ⟨a, xs, rfl, hx, q1, q2⟩ := h
  cases rx
  obtain ⟨its, r, ht, hz⟩ := I.tuple hx
  have n1 : its.toArray.size = xs.length := by rw [List.size_toArray, r.length]
  refine ⟨"tuple", _, PyProof.Rows.slot_tuple_getitem.lookup, ht.typeIs, ?_⟩
  by_cases hw : HT.sIx xs.length 0 lo = 0 ∧ HT.sIx xs.length xs.length hi = xs.length
  · exact L2.getItem_tuple_whole ht hs pl pu (by rw [n1]; exact hw) ⟨.ref a, H, I, rfl, q1 hw⟩
  · refine HT.getItem_tuple_cut ht hs pl pu (by rw [n1]; exact hw) ?_ (by rw [n1]; exact hz)
    rw [n1]
    have rr : Vals (cutV xs lo hi) ((its.toArray.toList.drop (HT.sIx xs.length 0 lo)).take (HT.sIx xs.length xs.length hi - HT.sIx xs.length 0 lo)) := (r.drop _).take _
    exact ⟨.ref _, _, tup_laid (t' := s.toks) I rr (Nat.le_trans (cutV_length xs lo hi) hz), rfl, q2 hw _ _ I.hok.free0 rfl rfl⟩
theorem x_cutT (hK : X.K = K) (ha : XB K X a ma) (hl : XO K X lo ml) (hh : XO K X hi mh) : XE K X (.Subscript a (.Slice lo hi none p2) pos) (mCutT ma ml mh) := by
  subst hK
  refine pe_imp (pe_slice sl_cutF ha hl hh) fun σ H Q ⟨H0, G, s, d, rs, e, q⟩ => ?_
  obtain ⟨x, ex, e⟩ := some_bind e
  obtain ⟨ds, ed, e⟩ := some_bind e
  obtain ⟨l, el, e⟩ := some_bind e
  obtain ⟨u, eu, rfl⟩ := Option.map_eq_some_iff.mp e
  have := fTup_some ed
  subst this
  refine ⟨H0, G, s, _, rs, ex, fun v H1 e1 rv => ⟨H0, G, s, l, rs.mono e1, el, fun H2 e2 => ⟨H0, G, s, u, rs.mono (e1.trans e2), eu, fun H3 e3 => ?_⟩⟩⟩
  obtain ⟨p, xs, rfl, hr, ra⟩ := RB.itemsT rv
  have e23 := e2.trans e3
  have e13 := e1.trans e23
  refine ⟨p, xs, rfl, (e23.sqt hr).sqt, fun ⟨w1, w2⟩ => ?_, fun _ p' o hp hc hd => ?_⟩
  · have hw : cutD ds l u = ds := by
      unfold cutD
      rw [ra.length] at w1 w2
      rw [w1, w2]
      simp
    rw [hw] at q
    exact q _ H3 e13 (.tup (e23.sqt hr) (ra.ex e23))
  · exact q _ _ (e13.trans (Ex.new hp)) (.tup (.inl ⟨o, upd_same, hc, hd⟩) (((ra.ex e23).cut l u).ex (Ex.new hp)))
/-- xs[::-1] of a list -/
def mRevL (m : M) : ML := fun s => (m s).bind fun d => (fList d).map List.reverse
theorem l_rev (hK : X.K = K) {k : Nat} {p1 p3 : Pos} (ha : XB K X a ma) : XL K X (.Subscript a (.Slice none none (some (.UnaryOp .USub (.Constant (.int 1) k p1) p2)) p3) pos) (mRevL ma) := by
  subst hK
  refine pe_imp (pe_revL ha) fun σ H Q ⟨H0, G, s, d, rs, e, q⟩ => ?_
  obtain ⟨x, ex, e⟩ := some_bind e
  obtain ⟨ds, ed, rfl⟩ := Option.map_eq_some_iff.mp e
  have := fList_some ed
  subst this
  refine ⟨H0, G, s, _, rs, ex, fun v H1 e1 rv => ?_⟩
  obtain ⟨p, xs, rfl, hr, ra⟩ := RB.items rs e1 rv
  exact ⟨p, xs, rfl, hr, fun p' hp => q p' _ _ (e1.back hp) (e1.trans (Ex.new hp)) upd_same ((ra.reverse.free hp).ex (Ex.new hp))⟩

/-! ### list + list, list * int -/
def rCatR (K : Fg) : R2 := fun x y H Q => ∃ l b xs zs, x = .ref l ∧ y = .ref b ∧ SqL K H l xs ∧ SqL K H b zs ∧ xs.length + zs.length ≤ sizeLine ∧ ∀ p, H p = none → Q (.ref p) (upd H p (.lst (xs ++ zs)))
theorem op_catR : OpR X (binaryOp .Add) (rCatR X.K) := by
  intro pins s σ H x y v u Q I rx ry h
  obtain ⟨l, b, xs, zs, rfl, rfl, hH, hB, hz, q⟩ := h
  cases rx
  cases ry
  obtain ⟨its, r, pl, _⟩ := I.list hH
  obtain ⟨its2, r2, pl2, _⟩ := I.list hB
  obtain ⟨⟨c1, d1, t1, s1⟩, g1, hc1, n1, hd1⟩ := pl.isList
  obtain ⟨⟨c2, d2, t2, s2⟩, g2, hc2, n2, hd2⟩ := pl2.isList
  simp only at hc1 hd1 hc2 hd2
  subst hc1 hd1 hc2 hd2
  have l1 := r.length
  have l2 := r2.length
  have ea : its.toArray ++ its2.toArray = (its ++ its2).toArray := by simp
  refine PySem.concat_meets ⟨_, g1, rfl⟩ ⟨_, g2, rfl⟩ PySem.noFill_list_add PySem.seq_list_add PySem.F.slot_list_add PySem.F.entry_list_add (PySem.F.args_list_add_2 _ _)
    (PyProof.Rows.list_addW l b its.toArray its2.toArray n1 n2 d1 d2 s1 s2 (by rw [List.size_toArray, List.size_toArray]; omega)) ⟨g1, g2, ?_⟩
  rw [ea]
  exact ⟨.ref _, _, I.lnew (t' := s.toks) (r.append r2) (by rw [List.length_append]; omega), rfl, q _ I.fresh⟩
def mCat (a b : M) : ML := fun s => (a s).bind fun x => (fList x).bind fun xs => (b s).bind fun y => (fList y).bind fun ys => if xs.length + ys.length ≤ 100000 then some (xs ++ ys) else none
theorem l_cat (hK : X.K = K) (ha : XB K X a ma) (hb : XB K X b mb) : XL K X (.BinOp a .Add b pos) (mCat ma mb) := by
  subst hK
  refine pe_imp (pe_op op_catR ha hb) fun σ H Q ⟨H0, G, s, d, rs, e, q⟩ => ?_
  obtain ⟨x, ex, e⟩ := some_bind e
  obtain ⟨xs, fx, e⟩ := some_bind e
  obtain ⟨y, ey, e⟩ := some_bind e
  obtain ⟨ys, fy, e⟩ := some_bind e
  obtain ⟨hl, e⟩ := if_some e
  cases e
  have := fList_some fx
  subst this
  have := fList_some fy
  subst this
  refine ⟨H0, G, s, _, rs, ex, fun v H1 e1 rv => ⟨H0, G, s, _, rs.mono e1, ey, fun u H2 e2 ru => ?_⟩⟩
  obtain ⟨p, vs, rfl, hr, ra⟩ := RB.items rs e1 rv
  obtain ⟨p', us, rfl, hr', ra'⟩ := RB.items (rs.mono e1) e2 ru
  have e12 := e1.trans e2
  refine ⟨p, p', vs, us, rfl, rfl, e2.sql hr, hr', sz_le (by rw [ra.length, ra'.length]; exact hl), fun o ho => ?_⟩
  exact q o _ _ (e12.back ho) (e12.trans (Ex.new ho)) upd_same ((((ra.ex e2).append ra').free ho).ex (Ex.new ho))
/-- a list that is written or made here, times an int -/
def mRep (a : ML) (b : M) : ML := fun s => (a s).bind fun xs => (b s).bind fun y => (intOf y).bind fun k => if k ≤ 100000 ∧ xs.length * k.toNat ≤ 100000 ∧ -100000 ≤ k then some (List.replicate k.toNat xs).flatten else none
theorem RA.rep {ds : List D} {vs : List V} (h : RA K B H vs ds) : ∀ n : Nat, RA K B H (List.replicate n vs).flatten (List.replicate n ds).flatten
  | 0 => .nil
  | n + 1 => by
    rw [List.replicate_succ, List.replicate_succ, List.flatten_cons, List.flatten_cons]
    exact h.append (RA.rep h n)
theorem l_rep {la : ML} (ha : XL K X a la) (hb : XB K X b mb) : XL K X (.BinOp a .Mult b pos) (mRep la mb) := by
  refine pe_imp (pe_op op_rep ha hb) fun σ H Q ⟨H0, G, s, d, rs, e, q⟩ => ?_
  obtain ⟨xs, ex, e⟩ := some_bind e
  obtain ⟨y, ey, e⟩ := some_bind e
  obtain ⟨k, fk, e⟩ := some_bind e
  obtain ⟨⟨h1, h2, h3⟩, e⟩ := if_some e
  cases e
  have := intOf_some fk
  subst this
  refine ⟨H0, G, s, _, rs, ex, fun p vs H1 hp e1 hr ra => ⟨H0, G, s, _, rs.mono e1, ey, fun u H2 e2 ru => ?_⟩⟩
  cases ru.plain (fun _ h => nomatch h)
  have e12 := e1.trans e2
  refine ⟨p, k, vs, rfl, rfl, e2 _ _ hr, by omega, by omega, sz_le (by rw [ra.length]; exact h2), fun o ho => ?_⟩
  exact q o _ _ (e12.back ho) (e12.trans (Ex.new ho)) upd_same (((((ra.ex e2).wider (fun a z => z.1)).rep _).free ho).ex (Ex.new ho))
end
end DD

namespace DD
variable [LTb]
open PySem L2
/-! ### what a statement leaves -/
inductive Out where
  | nx (s : S)
  | bk (s : S)
  | ct (s : S)
  | rt (d : D)
  | rtl (ds : List D)
  | ex (c : Str) (fs : List D)
  | no
/-- what the def does not hold itself stands, and stays so -/
def Tr (σ : St) (s : S) (H : Hp) (σ' : St) (s' : S) (H' : Hp) : Prop := ∀ a o, H a = some o → ¬ Own σ s a → NT o → H' a = some o ∧ ¬ Own σ' s' a
theorem Tr.refl (σ : St) (s : S) (H : Hp) : Tr σ s H σ s H := fun a o h n _ => ⟨h, n⟩
theorem Tr.trans {σ σ1 σ2 : St} {s s1 s2 : S} {H H1 H2 : Hp} (a : Tr σ s H σ1 s1 H1) (b : Tr σ1 s1 H1 σ2 s2 H2) : Tr σ s H σ2 s2 H2 := fun p o h n m => b p o (a p o h n m).1 (a p o h n m).2 m
theorem Tr.ex {σ σ' : St} {s s' : S} {H H1 H' : Hp} (e : Ex H H1) (b : Tr σ s H1 σ' s' H') : Tr σ s H σ' s' H' := fun p o h n m => b p o (e p o h m) n m
theorem Tr.grow {σ : St} {s : S} {H H1 : Hp} (e : Ex H H1) : Tr σ s H σ s H1 := fun p o h n m => ⟨e p o h m, n⟩
/-- how an exception lies: its class, its fields in their order -/
abbrev XC := Str → List D → Value → Option Addr → Hp → Prop
def Post (K : Fg) (H0 : Hp) (G : Addr → Prop) (C : XC) (E : XK) (σ : St) (s : S) (H : Hp) (Dn : Ends) : Out → Prop
  | .nx s' => ∀ σ' H', RS K H0 G σ' H' s' → Tr σ s H σ' s' H' → Dn.nx σ' H'
  | .bk s' => ∀ σ' H', RS K H0 G σ' H' s' → Tr σ s H σ' s' H' → Dn.bk σ' H'
  | .ct s' => ∀ σ' H', RS K H0 G σ' H' s' → Tr σ s H σ' s' H' → Dn.ct σ' H'
  | .rt d => ∀ v H', Ex H0 H' → R K G H' v d → Dn.rt v H'
  | .rtl ds => ∀ p xs H', H0 p = none → Ex H0 H' → H' p = some (.lst xs) → RA K (fun a => G a ∧ a ≠ p) H' xs ds → Dn.rt (.ref p) H'
  | .ex c fs => ∀ cls d H', Ex H0 H' → C c fs cls d H' → E cls d H'
  | .no => False
theorem Post.from {K : Fg} {H0 : Hp} {G : Addr → Prop} {C : XC} {E : XK} {σ σ1 : St} {s s1 : S} {H H1 : Hp} {Dn : Ends} {o : Out} (t : Tr σ s H σ1 s1 H1) (h : Post K H0 G C E σ s H Dn o) : Post K H0 G C E σ1 s1 H1 Dn o := by
  cases o with
  | nx s' => exact fun σ' H' r q => h σ' H' r (t.trans q)
  | bk s' => exact fun σ' H' r q => h σ' H' r (t.trans q)
  | ct s' => exact fun σ' H' r q => h σ' H' r (t.trans q)
  | rt d => exact h
  | rtl ds => exact h
  | ex c fs => exact h
  | no => exact h
abbrev MS := S → Out
def sD (K : Fg) (C : XC) (E : XK) (m : MS) : TS := fun Dn σ H => ∃ H0 G s, RS K H0 G σ H s ∧ Post K H0 G C E σ s H Dn (m s)
abbrev XS (K : Fg) (C : XC) (E : XK) (X : Cx) (st : Stmt) (m : MS) := PS X st (sD K C E m)
abbrev XSs (K : Fg) (C : XC) (E : XK) (X : Cx) (st : List Stmt) (m : MS) := PSs X st (sD K C E m)
section
variable {K : Fg} {X : Cx} {C : XC} {E : XK} {H0 H H' : Hp} {G : Addr → Prop} {σ : St} {s : S}
def mSeq (a b : MS) : MS := fun s => match a s with
  | .nx s' => b s'
  | o => o
def mNext : MS := .nx
variable {st : Stmt} {sts : List Stmt} {ma mb : MS}
theorem ss_nil : XSs K C E X [] mNext := pss_imp pss_nil fun D σ H ⟨H0, G, s, r, q⟩ => q σ H r (Tr.refl _ _ _)
theorem ss_cons (ha : XS K C E X st ma) (hb : XSs K C E X sts mb) : XSs K C E X (st :: sts) (mSeq ma mb) := pss_imp (pss_cons ha hb) fun D σ H ⟨H0, G, s, r, q⟩ => by
  refine ⟨H0, G, s, r, ?_⟩
  unfold mSeq at q
  cases hm : ma s with
  | nx s1 =>
    rw [hm] at q
    exact fun σ1 H1 r1 t => ⟨H0, G, s1, r1, q.from t⟩
  | bk s1 => rw [hm] at q; exact q
  | ct s1 => rw [hm] at q; exact q
  | rt d => rw [hm] at q; exact q
  | rtl ds => rw [hm] at q; exact q
  | ex c fs => rw [hm] at q; exact q
  | no => rw [hm] at q; exact q
theorem ss_one (ha : XS K C E X st ma) : XSs K C E X [st] ma := pss_imp (pss_one ha) fun _ _ _ h => h
variable {e : Expr} {m : M} {ml : ML} {c : Expr} {mc : MB} {pos : Pos}
def mPass : MS := .nx
def mBrk : MS := .bk
def mCt : MS := .ct
theorem s_pass : XS K C E X (.Pass pos) mPass := ps_imp ps_pass fun D σ H ⟨H0, G, s, r, q⟩ => q σ H r (Tr.refl _ _ _)
theorem s_break : XS K C E X (.Break pos) mBrk := ps_imp ps_break fun D σ H ⟨H0, G, s, r, q⟩ => q σ H r (Tr.refl _ _ _)
theorem s_continue : XS K C E X (.Continue pos) mCt := ps_imp ps_continue fun D σ H ⟨H0, G, s, r, q⟩ => q σ H r (Tr.refl _ _ _)
def mIfS (c : MB) (a b : MS) : MS := fun s => match c s with
  | some true => a s
  | some false => b s
  | none => .no
theorem s_if {xs ys : List Stmt} (hc : XT K X c mc) (ha : XSs K C E X xs ma) (hb : XSs K C E X ys mb) : XS K C E X (.If c xs ys pos) (mIfS mc ma mb) := ps_imp (ps_if hc ha hb) fun D σ H ⟨H0, G, s, r, q⟩ => by
  unfold mIfS at q
  cases hm : mc s with
  | none => rw [hm] at q; exact q.elim
  | some b =>
    refine ⟨H0, G, s, b, r, hm, fun H1 e1 => ?_⟩
    rw [hm] at q
    cases b with
    | true => exact iteT ⟨H0, G, s, r.mono e1, q.from (Tr.grow e1)⟩
    | false => exact iteF ⟨H0, G, s, r.mono e1, q.from (Tr.grow e1)⟩
/-- a slot's list is shared from here on -/
def shareS (i : Nat) (s : S) : S := match s[i]? with
  | some (some (.own c)) => s.set i (some (.sh (dataC c)))
  | _ => s
theorem RS.shared (r : RS K H0 G σ H s) (i : Nat) : RS K H0 G σ H (shareS i s) ∧ Tr σ s H σ (shareS i s) H := by
  unfold shareS
  split
  · rename_i ds hi
    refine ⟨r.shareC hi, fun a o h n _ => ⟨h, fun ⟨j, es, h1, h2⟩ => n ?_⟩⟩
    rcases get_set h1 with ⟨_, e, _⟩ | ⟨_, h1⟩
    · cases e
    · exact ⟨j, es, h1, h2⟩
  · exact ⟨r, Tr.refl _ _ _⟩
def mShare (i : Nat) (m : MS) : MS := fun s => m (shareS i s)
theorem s_share (i : Nat) (h : XS K C E X st ma) : XS K C E X st (mShare i ma) := ps_imp h fun D σ H ⟨H0, G, s, r, q⟩ => ⟨H0, G, shareS i s, (r.shared i).1, q.from (r.shared i).2⟩

/-! ### stores -/
theorem Tr.set {v : Option V} {d : D} (i : Nat) : Tr σ s H (σ.set i v) (s.set i (some (.sh d))) H := fun a o h n _ => ⟨h, fun ⟨j, ds, h1, h2⟩ => n (by
  rcases get_set h1 with ⟨_, e, _⟩ | ⟨hj, h1⟩
  · cases e
  · rcases get_set h2 with ⟨e, _⟩ | ⟨_, h2⟩
    · exact (hj e).elim
    · exact ⟨j, ds, h1, h2⟩)⟩
theorem Tr.setO {p : Addr} {c : Cont} (i : Nat) (e : Ex H H') (hp : H p = none) : Tr σ s H (σ.set i (some (.ref p))) (s.set i (some (.own c))) H' := fun a o h n m => ⟨e a o h m, fun ⟨j, es, h1, h2⟩ => n (by
  rcases get_set h1 with ⟨e1, _, _⟩ | ⟨hj, h1⟩
  · rcases get_set h2 with ⟨_, e2, _⟩ | ⟨q, _⟩
    · cases e2
      rw [hp] at h; cases h
    · exact (q e1).elim
  · rcases get_set h2 with ⟨q, _⟩ | ⟨_, h2⟩
    · exact (hj q).elim
    · exact ⟨j, es, h1, h2⟩)⟩
theorem Tr.mutO {i : Nat} {a : Addr} {es c : Cont} {u : HO} (hi : s[i]? = some (some (Sl.own es))) (ha : σ[i]? = some (some (V.ref a))) : Tr σ s H σ (s.set i (some (.own c))) (upd H a u) := fun b o h n _ => by
  have ne : b ≠ a := fun q => n ⟨i, es, hi, by rw [q]; exact ha⟩
  refine ⟨by rw [upd_ne ne]; exact h, fun ⟨j, es', h1, h2⟩ => n ?_⟩
  rcases get_set h1 with ⟨e1, _, _⟩ | ⟨hj, h1⟩
  · subst e1; exact ⟨j, es, hi, h2⟩
  · exact ⟨j, es', h1, h2⟩
/-- targets over data -/
abbrev MG := D → S → Option S
/-- but for the slots ts -/
def But {α : Type} (ts : List Nat) (l l' : List α) : Prop := l'.length = l.length ∧ ∀ j, j ∉ ts → l'[j]? = l[j]?
/-- how an item lies at a value -/
abbrev Rl := (Addr → Prop) → Hp → V → D → Prop
structure Wide (r : Rl) : Prop where
  go : ∀ (B B' : Addr → Prop) (H : Hp) (v : V) (d : D), (∀ a, B a → B' a) → r B H v d → r B' H v d
theorem wideR (K : Fg) : Wide (R K) := ⟨fun _ _ _ _ _ h r => r.wider h⟩
def gDr (rl : Rl) (K : Fg) (ts : List Nat) (g : MG) : TG := fun v σ H Q => ∃ H0 G s d s', RS K H0 G σ H s ∧ rl (Cl G σ s) H v d ∧ g d s = some s' ∧ ∀ σ', RS K H0 G σ' H s' → Tr σ s H σ' s' H → But ts σ σ' → But ts s s' → Q σ' H
abbrev gD (K : Fg) (ts : List Nat) (g : MG) : TG := gDr (R K) K ts g
abbrev XG (K : Fg) (X : Cx) (tg : Expr) (ts : List Nat) (g : MG) := PG X tg (gD K ts g)
theorem But.refl {α : Type} (ts : List Nat) (l : List α) : But ts l l := ⟨rfl, fun _ _ => rfl⟩
theorem But.trans {α : Type} {ts us : List Nat} {l l1 l2 : List α} (a : But ts l l1) (b : But us l1 l2) : But (ts ++ us) l l2 := ⟨b.1.trans a.1, fun j hj => by
  rw [List.mem_append] at hj
  rw [b.2 j fun z => hj (.inr z), a.2 j fun z => hj (.inl z)]⟩
theorem But.set {α : Type} (i : Nat) (l : List α) (x : α) : But [i] l (l.set i x) := ⟨List.length_set, fun j hj => List.getElem?_set_ne (fun e => hj (by simp [e]))⟩
def gN (i : Nat) : MG := fun d s => some (s.set i (some (.sh d)))
theorem pg_imp {tg : Expr} {t u : TG} (h : PG X tg t) (i : ∀ v σ H Q, u v σ H Q → t v σ H Q) : PG X tg u := ⟨fun pins s σ H v w Q I r q => h.run pins s σ H v w Q I r (i v σ H Q q)⟩
theorem g_name {i : Nat} {tg : Expr} (h : PG X tg (gName i)) : XG K X tg [i] (gN i) := pg_imp h fun v σ H Q ⟨H0, G, s, d, s', r, rv, e, q⟩ => by
  cases e
  exact q _ (r.set i rv) (Tr.set i) (But.set i _ _) (But.set i _ _)
def mAsgG (g : MG) (m : M) : MS := fun s => match (m s).bind fun d => g d s with
  | some s' => .nx s'
  | none => .no
def mAsg (i : Nat) (m : M) : MS := fun s => match m s with
  | some d => .nx (s.set i (some (.sh d)))
  | none => .no
def mAsgL (i : Nat) (m : ML) : MS := fun s => match m s with
  | some ds => .nx (s.set i (some (.ow ds)))
  | none => .no
theorem rdAsg {i : Nat} {Dn : Ends} {σ : St} {H : Hp} (h : sD K C E (mAsg i m) Dn σ H) : tAsg (tD K m) (gName i) Dn σ H := by
  obtain ⟨H0, G, s, r, q⟩ := h
  unfold mAsg at q
  cases hm : m s with
  | none => rw [hm] at q; exact q.elim
  | some d =>
    rw [hm] at q
    exact ⟨H0, G, s, d, r, hm, fun v H1 e1 rv => q _ H1 ((r.mono e1).set i rv) ((Tr.set (H := H1) i).ex e1)⟩
theorem rdAsgL {i : Nat} {Dn : Ends} {σ : St} {H : Hp} (h : sD K C E (mAsgL i ml) Dn σ H) : tAsg (tL K ml) (gName i) Dn σ H := by
  obtain ⟨H0, G, s, r, q⟩ := h
  unfold mAsgL at q
  cases hm : ml s with
  | none => rw [hm] at q; exact q.elim
  | some ds =>
    rw [hm] at q
    exact ⟨H0, G, s, ds, r, hm, fun p xs H1 hp e1 h1 hx => q _ H1 (r.setO i e1 hp h1 hx) (Tr.setO i e1 hp)⟩
/-- name = e; name = a fresh list: from a rule over readings -/
theorem s_asg {i : Nat} (h : PS X st (tAsg (tD K m) (gName i))) : XS K C E X st (mAsg i m) := ps_imp h fun _ _ _ q => rdAsg q
theorem s_asgL {i : Nat} (h : PS X st (tAsg (tL K ml) (gName i))) : XS K C E X st (mAsgL i ml) := ps_imp h fun _ _ _ q => rdAsgL q
theorem s_asgG {g : MG} {ts : List Nat} (h : PS X st (tAsg (tD K m) (gD K ts g))) : XS K C E X st (mAsgG g m) := ps_imp h fun D σ H ⟨H0, G, s, r, q⟩ => by
  unfold mAsgG at q
  cases hm : m s with
  | none => rw [hm] at q; exact q.elim
  | some d =>
    rw [hm] at q
    refine ⟨H0, G, s, d, r, hm, fun v H1 e1 rv => ?_⟩
    cases hg : g d s with
    | none => simp only [Option.bind_some, hg] at q; exact q.elim
    | some s' =>
      simp only [Option.bind_some, hg] at q
      exact ⟨H0, G, s, d, s', r.mono e1, rv, hg, fun σ' r' t _ _ => q σ' H1 r' (t.ex e1)⟩
def mRet (m : M) : MS := fun s => match m s with
  | some d => .rt d
  | none => .no
def mRetL (m : ML) : MS := fun s => match m s with
  | some ds => .rtl ds
  | none => .no
def mRetN : MS := fun _ => .rt .none
/-- return x, x a list of the def's own -/
def mRetO (i : Nat) : MS := fun s => match s[i]? with
  | some (some (.ow ds)) => .rtl ds
  | some (some (.od kvs)) => .rt (.dict kvs)
  | some (some (.sh d)) => .rt d
  | _ => .no
theorem s_ret (h : XE K X e m) : XS K C E X (.Return (some e) pos) (mRet m) := ps_imp (ps_ret h) fun D σ H ⟨H0, G, s, r, q⟩ => by
  unfold mRet at q
  cases hm : m s with
  | none => rw [hm] at q; exact q.elim
  | some d =>
    rw [hm] at q
    exact ⟨H0, G, s, d, r, hm, fun v H1 e1 rv => q v H1 (r.ex.trans e1) (rv.wider fun a z => z.1)⟩
theorem s_retL (h : XL K X e ml) : XS K C E X (.Return (some e) pos) (mRetL ml) := ps_imp (ps_ret h) fun D σ H ⟨H0, G, s, r, q⟩ => by
  unfold mRetL at q
  cases hm : ml s with
  | none => rw [hm] at q; exact q.elim
  | some d =>
    rw [hm] at q
    exact ⟨H0, G, s, d, r, hm, fun p xs H1 hp e1 h1 hx => q p xs H1 (r.ex.back hp) (r.ex.trans e1) h1 (hx.wider fun a z => ⟨z.1.1, z.2⟩)⟩
theorem s_retN : XS K C E X (.Return none pos) mRetN := ps_imp ps_retN fun D σ H ⟨H0, G, s, r, q⟩ => q _ H r.ex .non
theorem s_retO {i : Nat} (h : PE X e (tVar i)) : XS K C E X (.Return (some e) pos) (mRetO i) := ps_imp (ps_ret h) fun D σ H ⟨H0, G, s, r, q⟩ => by
  unfold mRetO at q
  split at q
  · rename_i ds hi
    obtain ⟨a, xs, h1, h2, h3, h4, h5⟩ := r.owL i ds hi
    exact ⟨.ref a, h1, q a xs H h3 r.ex h2 (h5.wider fun b z => ⟨z.1, fun w => z.2 ⟨i, _, hi, by rw [w]; exact h1⟩⟩)⟩
  · rename_i kvs hi
    obtain ⟨a, L, h1, h2, h3, h4, h5⟩ := r.owD i kvs hi
    exact ⟨.ref a, h1, q _ H r.ex (.dic h4 (.inl h2) h5)⟩
  · rename_i d hi
    obtain ⟨v, h1, h2⟩ := r.sh i d hi
    exact ⟨v, h1, q v H r.ex (h2.wider fun b z => z.1)⟩
  · exact q.elim
def mDrop (m : M) : MS := fun s => match m s with
  | some _ => .nx s
  | none => .no
theorem s_drop (h : XE K X e m) (hs : swapsWith e none pos.line X.env = pure false := by rfl) : XS K C E X (.Expr e pos) (mDrop m) := ps_imp (ps_expr h hs) fun D σ H ⟨H0, G, s, r, q⟩ => by
  unfold mDrop at q
  cases hm : m s with
  | none => rw [hm] at q; exact q.elim
  | some d =>
    rw [hm] at q
    exact ⟨H0, G, s, d, r, hm, fun v H1 e1 rv => q σ H1 (r.mono e1) (Tr.grow e1)⟩
theorem s_doc {x : Str} {j : Nat} {p1 p2 : Pos} : XS K C E X (.Expr (.Constant (.str x) j p1) p2) mPass := ps_imp ps_doc fun D σ H ⟨H0, G, s, r, q⟩ => q σ H r (Tr.refl _ _ _)

/-! ### lists of the def's own change -/
/-- xs.append(e) -/
def mApp (i : Nat) (m : M) : MS := fun s => match s[i]? with
  | some (some (.ow ds)) => (match m s with
    | some d => if ds.length < 100000 then .nx (s.set i (some (.ow (ds ++ [d])))) else .no
    | none => .no)
  | _ => .no
theorem s_app {i : Nat} {x : Expr} {p1 p2 p3 : Pos} (hK : X.K = K) (hx : PE X x (tVar i)) (he : XE K X e m) (hs : swapsWith (.Call (.Attribute x "append" p1) [e] [] p2) none p3.line X.env = pure false := by rfl) (ht : PS X (.Expr (.Call (.Attribute x "append" p1) [e] [] p2) p3) (tDrop (tBM X.K "list" rAppend (tVar i) (tCons (tD K m) tNil)))) :
    XS K C E X (.Expr (.Call (.Attribute x "append" p1) [e] [] p2) p3) (mApp i m) := ps_imp ht fun D σ H ⟨H0, G, s, r, q⟩ => by
  subst hK
  unfold mApp at q
  split at q
  · rename_i ds hi
    split at q
    · rename_i d hm
      by_cases hl : ds.length < 100000
      · rw [if_pos hl] at q
        obtain ⟨a, xs, h1, h2, h3, h4, h5⟩ := r.owL i ds hi
        refine ⟨.ref a, h1, .inl ⟨rfl, xs, .inl (.inl h2)⟩, H0, G, s, d, r, hm, fun v H1 e1 rv => ?_⟩
        refine ⟨a, xs, v, rfl, rfl, e1 _ _ h2, sz_lt (by rw [h5.length]; exact hl), ?_⟩
        exact q σ _ ((r.mono e1).mutO hi h1 ((h5.ex e1).append (.cons rv .nil))) ((Tr.mutO hi h1).ex e1)
      · rw [if_neg hl] at q; exact q.elim
    · exact q.elim
  · exact q.elim
/-- xs[k] = e -/
def mSetIx (i : Nat) (k m : M) : MS := fun s => match s[i]? with
  | some (some (.ow ds)) => (match (m s).bind fun d => (k s).bind fun kd => (intOf kd).bind fun n => (ixN ds.length n).map fun j => (j, d) with
    | some (j, d) => .nx (s.set i (some (.ow (ds.set j d))))
    | none => .no)
  | _ => .no
theorem s_setix {i : Nat} {k m : M} (h : PS X st (tAsg (tD K m) (gSub (tVar i) (tBo K k) rSetL))) : XS K C E X st (mSetIx i k m) := ps_imp h fun D σ H ⟨H0, G, s, r, q⟩ => by
  unfold mSetIx at q
  split at q
  · rename_i ds hi
    split at q
    · rename_i j d hm
      obtain ⟨d', ed, hm⟩ := some_bind hm
      obtain ⟨kd, ek, hm⟩ := some_bind hm
      obtain ⟨n, en, hm⟩ := some_bind hm
      obtain ⟨j', ej, e⟩ := Option.map_eq_some_iff.mp hm
      cases e
      have := intOf_some en
      subst this
      obtain ⟨a, xs, h1, h2, h3, h4, h5⟩ := r.owL i ds hi
      refine ⟨H0, G, s, d, r, ed, fun v H1 e1 rv => ⟨.ref a, h1, H0, G, s, _, r.mono e1, ek, fun u H2 e2 ru => ?_⟩⟩
      cases ru.plain (fun _ h => nomatch h)
      have e12 := e1.trans e2
      refine ⟨a, xs, n, j, rfl, rfl, e12 _ _ h2, by rw [h5.length]; exact ej, ?_⟩
      exact q σ _ ((r.mono e12).mutO hi h1 ((h5.ex e12).set j (rv.ex e2))) ((Tr.mutO hi h1).ex e12)
    · exact q.elim
  · exact q.elim
/-- xs.reverse() -/
def mRevS (i : Nat) : MS := fun s => match s[i]? with
  | some (some (.ow ds)) => .nx (s.set i (some (.ow ds.reverse)))
  | _ => .no
theorem s_reverse {i : Nat} (hK : X.K = K) (h : PS X st (tDrop (tBM0 X.K "list" rReverse (tVar i)))) : XS K C E X st (mRevS i) := ps_imp h fun D σ H ⟨H0, G, s, r, q⟩ => by
  subst hK
  unfold mRevS at q
  split at q
  · rename_i ds hi
    obtain ⟨a, xs, h1, h2, h3, h4, h5⟩ := r.owL i ds hi
    exact ⟨.ref a, h1, .inl ⟨rfl, xs, .inl (.inl h2)⟩, a, xs, rfl, rfl, h2, q σ _ (r.mutO hi h1 h5.reverse) (Tr.mutO hi h1)⟩
  · exact q.elim
/-- x += e of whole numbers -/
def mAug (i : Nat) (f : Int → Int → Int) (m : M) : MS := fun s => match (mVar i s).bind fun x => (intOf x).bind fun a => (m s).bind fun y => (intOf y).map fun b => f a b with
  | some z => .nx (s.set i (some (.sh (.int z))))
  | none => .no
theorem s_aug {i : Nat} {f : Int → Int → Int} (h : PS X st (tAug i (tBo K m) (ipI f))) : XS K C E X st (mAug i f m) := ps_imp h fun D σ H ⟨H0, G, s, r, q⟩ => by
  unfold mAug at q
  split at q
  · rename_i z hz
    obtain ⟨x, ex, hz⟩ := some_bind hz
    obtain ⟨a, ea, hz⟩ := some_bind hz
    obtain ⟨y, ey, hz⟩ := some_bind hz
    obtain ⟨b, eb, rfl⟩ := Option.map_eq_some_iff.mp hz
    have := intOf_some ea
    subst this
    have := intOf_some eb
    subst this
    unfold mVar at ex
    split at ex
    · rename_i w
      cases ex
      obtain ⟨v, h1, h2⟩ := r.sh i _ w
      cases h2
      refine ⟨_, h1, H0, G, s, _, r, ey, fun u H1 e1 ru => ?_⟩
      cases ru.plain (fun _ h => nomatch h)
      exact ⟨a, b, rfl, rfl, q _ H1 ((r.mono e1).set i (.int _)) ((Tr.set (H := H1) i).ex e1)⟩
    · cases ex
  · exact q.elim
end
end DD

namespace DD
variable [LTb]
open PySem L2
/-! ### walks -/
def Kp (G : Addr → Prop) (σ : St) (s : S) (H H' : Hp) : Prop := ∀ a o, H a = some o → ¬ Own σ s a → (G a ∨ (∃ q u, o = .frz q u) ∨ Xo a o) → NT o → H' a = some o
theorem Kp.refl (G : Addr → Prop) (σ : St) (s : S) (H : Hp) : Kp G σ s H H := fun _ _ h _ _ _ => h
/-- the iterator yields the data ds, as long as what the def does not hold stands -/
structure Ylr (rl : Rl) (G : Addr → Prop) (σ : St) (s : S) (J : It) (ds : List D) (H1 : Hp) : Prop where
  go : ∀ (i : Nat) (d : D) (H2 : Hp), ds[i]? = some d → Kp G σ s H1 H2 → J.go i H2
  yld : ∀ (i : Nat) (d : D) (H2 : Hp) (x : V) (H3 : Hp), ds[i]? = some d → Kp G σ s H1 H2 → J.yld i H2 x H3 → Ex H2 H3 ∧ rl (fun a => Cl G σ s a ∧ There H1 a) H3 x d
  stop : ∀ H2, Kp G σ s H1 H2 → J.stop ds.length H2
abbrev Yl (K : Fg) (G : Addr → Prop) (σ : St) (s : S) (J : It) (ds : List D) (H1 : Hp) : Prop := Ylr (R K) G σ s J ds H1
def iDr (rl : Rl) (K : Fg) (m : ML) : TI := fun σ H Rr => ∃ H0 G s ds, RS K H0 G σ H s ∧ m s = some ds ∧ ∀ J H1, Ex H H1 → Ylr rl G σ s J ds H1 → Rr J H1
abbrev iD (K : Fg) (m : ML) : TI := iDr (R K) K m
abbrev XI (K : Fg) (X : Cx) (tg it : Expr) (m : ML) := PI X tg it (iD K m)
section
variable {K : Fg} {X : Cx} {C : XC} {E : XK} {H0 H H' H1 H2 : Hp} {G B : Addr → Prop} {σ : St} {s : S} {tg e : Expr} {m : M} {ml : ML} {pos p : Pos}
theorem R.there {d : D} {v : V} (h : R K B H v d) : R K (fun a => B a ∧ There H a) H v d := R.to (fun a xs m hb hr => ⟨⟨hb, rd_there m hr⟩, hr⟩) (fun _ _ q => q) (fun _ _ _ q => q) d v h
theorem RA.there {ds : List D} {vs : List V} (h : RA K B H vs ds) : RA K (fun a => B a ∧ There H a) H vs ds := RA.to (fun a xs m hb hr => ⟨⟨hb, rd_there m hr⟩, hr⟩) (fun _ _ q => q) (fun _ _ _ q => q) ds vs h
theorem rd_none {H : Hp} {a : Addr} (h : There H a) (n : H a = none) : False := by
  obtain ⟨o, e, _⟩ := h
  rw [n] at e; cases e
theorem Kp.sqt (r : RS K H0 G σ H s) (k : Kp G σ s H H') {a : Addr} {xs : List V} (h : TupX K H a xs) : TupX K H' a xs := h.to fun o u q => k a _ q (fun w => by
  obtain ⟨ys, e, _, mu⟩ := r.own_lst w
  rw [q] at e; cases e
  exact mu_not_frz mu) (.inr (.inl ⟨_, _, rfl⟩)) nt_frz
theorem Kp.xo (r : RS K H0 G σ H s) (k : Kp G σ s H H') {a : Addr} {o : HO} (m : Xo a o) (h : H a = some o) : H' a = some o := k a _ h (fun w => by
  obtain ⟨ys, e, _, mu⟩ := r.own_lst w
  rw [h] at e; cases e
  exact mu_xo mu m) (.inr (.inr m)) m.nt
theorem Kp.rd (k : Kp G σ s H H') {a : Addr} {u : HO} (n : Cl G σ s a) (h : Rd H a u) (m : NT u := by first | exact nt_lst | exact nt_frz | exact Mu.nt (by assumption) | assumption) : Rd H' a u := by
  rcases h with h | ⟨o, h⟩
  · exact .inl (k a _ h n.2 (.inl n.1) m)
  · exact .inr ⟨o, k a _ h n.2 (.inl n.1) nt_frz⟩
/-- clean data stands as long as what the def does not hold stands -/
theorem R.kp (r : RS K H0 G σ H s) (k : Kp G σ s H H') {d : D} {v : V} (h : R K (Cl G σ s) H v d) : R K (fun a => Cl G σ s a ∧ There H a) H' v d :=
  R.to (fun a xs m hb hr => ⟨⟨hb, rd_there m hr⟩, k.rd hb hr m.nt⟩) (fun _ _ q => k.sqt r q) (fun _ _ m q => k.xo r m q) d v h
theorem RA.kp (r : RS K H0 G σ H s) (k : Kp G σ s H H') {ds : List D} {vs : List V} (h : RA K (Cl G σ s) H vs ds) : RA K (fun a => Cl G σ s a ∧ There H a) H' vs ds :=
  RA.to (fun a xs m hb hr => ⟨⟨hb, rd_there m hr⟩, k.rd hb hr m.nt⟩) (fun _ _ q => k.sqt r q) (fun _ _ m q => k.xo r m q) ds vs h
def items : D → Option (List D)
  | .list ds => some ds
  | .tuple ds => some ds
  | _ => none
def iSeq (m : M) : ML := fun s => (m s).bind items
/-- for x in a clean list, in a tuple -/
theorem i_seq (hK : X.K = K) (h : XE K X e m) : XI K X tg e (iSeq m) := by
  subst hK
  refine ⟨fun pins s σ H Rr I ⟨H0, G, sd, ds, r, e1, q⟩ => ?_⟩
  obtain ⟨d, ed, e1⟩ := some_bind e1
  unfold items at e1
  split at e1
  · cases e1
    refine (pi_list h).run pins s σ H Rr I ⟨H0, G, sd, _, r, ed, fun v H1 e1 rv => ?_⟩
    cases rv with
    | lst hr ha =>
      rename_i a xs
      have st : ∀ H2, Kp G σ sd H1 H2 → SqL X.K H2 a xs := fun H2 k => hr.elim (fun q => .inl (k.rd q.1 q.2)) .inr
      refine ⟨a, rfl, ⟨xs, hr.sql⟩, q _ H1 e1 ⟨fun i d H2 hd k => ?_, fun i d H2 x H3 hd k y => ?_, fun H2 k => ⟨xs, st H2 k, by rw [ha.length]; exact Nat.le_refl _⟩⟩⟩
      · obtain ⟨v, hv, _⟩ := ha.get hd
        exact ⟨xs, v, st H2 k, hv⟩
      · obtain ⟨rfl, y⟩ := y
        have hx := y xs (st _ k)
        obtain ⟨v, hv, rv⟩ := ha.get hd
        rw [hv] at hx; cases hx
        exact ⟨Ex.refl _, R.kp (r.mono e1) k rv⟩
  · cases e1
    refine (pi_tup h).run pins s σ H Rr I ⟨H0, G, sd, _, r, ed, fun v H1 e1 rv => ?_⟩
    cases rv with
    | tup hr ha =>
      rename_i a xs
      have st : ∀ H2, Kp G σ sd H1 H2 → SqT X.K H2 a xs := fun H2 k => (k.sqt (r.mono e1) hr).sqt
      refine ⟨a, rfl, ⟨xs, hr.sqt⟩, q _ H1 e1 ⟨fun i d H2 hd k => ?_, fun i d H2 x H3 hd k y => ?_, fun H2 k => ⟨xs, st H2 k, by rw [ha.length]; exact Nat.le_refl _⟩⟩⟩
      · obtain ⟨v, hv, _⟩ := ha.get hd
        exact ⟨xs, v, st H2 k, hv⟩
      · obtain ⟨rfl, y⟩ := y
        have hx := y xs (st _ k)
        obtain ⟨v, hv, rv⟩ := ha.get hd
        rw [hv] at hx; cases hx
        exact ⟨Ex.refl _, R.kp (r.mono e1) k rv⟩
  · cases e1
/-- whole numbers lo, lo + 1, .. -/
def rangeD (lo : Int) (n : Nat) : List D := (List.range n).map fun i => .int (lo + (i : Nat))
theorem yl_range {lo : Int} {n : Nat} : Yl K G σ s (Itr lo n) (rangeD lo n) H1 := by
  refine ⟨fun i d H2 hd k => ?_, fun i d H2 x H3 hd k y => ?_, fun H2 k => ?_⟩
  · obtain ⟨hl, _⟩ := List.getElem?_eq_some_iff.mp hd
    have h2 : i < n := by simpa [rangeD] using hl
    exact h2
  · obtain ⟨rfl, rfl⟩ := y
    obtain ⟨hl, hd⟩ := List.getElem?_eq_some_iff.mp hd
    have : d = .int (lo + (i : Nat)) := by rw [← hd]; simp [rangeD]
    subst this
    exact ⟨Ex.refl _, .int _⟩
  · show n ≤ (rangeD lo n).length
    simp [rangeD]
def lim (n : Int) : Bool := decide (-1000000 ≤ n ∧ n ≤ 1000000)
def iRange1 (m : ML) : ML := fun s => (m s).bind fun ds => match ds with
  | [.int n] => if lim n = true then some (rangeD 0 n.toNat) else none
  | _ => none
def iRange2 (m : ML) : ML := fun s => (m s).bind fun ds => match ds with
  | [.int i, .int j] => if lim i = true ∧ lim j = true then some (rangeD i (j - i).toNat) else none
  | _ => none
theorem lim_of {n : Int} (h : lim n = true) : -1000000 ≤ n ∧ n ≤ 1000000 := of_decide_eq_true h
variable {a b : Expr}
theorem i_range1 (hg : Gl X "range") (hm : X.mg "range" = none) (ha : XAb K X [a] ml) (hs : starEach [a] X.env = [(false, eval a X.env)] := by rfl) : XI K X tg (.Call (.Name "range" p) [a] [] pos) (iRange1 ml) := by
  refine ⟨fun pins s σ H Rr I ⟨H0, G, sd, ds, r, e0, q⟩ => (pi_range1 hg hm ha hs).run pins s σ H Rr I ?_⟩
  obtain ⟨es, ee, e3⟩ := some_bind e0
  clear e0
  refine ⟨H0, G, sd, es, r, ee, fun vs H1 e2 rv => ?_⟩
  split at e3
  · obtain ⟨hl, e3⟩ := if_some e3
    cases e3
    rename_i n
    have := lim_of hl
    cases rv with
    | cons h1 h2 =>
      cases h1; cases h2
      exact ⟨n, rfl, by omega, by omega, q _ H1 e2 yl_range⟩
  · cases e3
theorem i_range2 (hg : Gl X "range") (hm : X.mg "range" = none) (ha : XAb K X [a, b] ml) (hs : starEach [a, b] X.env = [(false, eval a X.env), (false, eval b X.env)] := by rfl) (hs2 : starEach [b] X.env = [(false, eval b X.env)] := by rfl) :
    XI K X tg (.Call (.Name "range" p) [a, b] [] pos) (iRange2 ml) := by
  refine ⟨fun pins s σ H Rr I ⟨H0, G, sd, ds, r, e0, q⟩ => (pi_range2 hg hm ha hs hs2).run pins s σ H Rr I ?_⟩
  obtain ⟨es, ee, e3⟩ := some_bind e0
  clear e0
  refine ⟨H0, G, sd, es, r, ee, fun vs H1 e2 rv => ?_⟩
  split at e3
  · obtain ⟨⟨hl, hl2⟩, e3⟩ := if_some e3
    cases e3
    rename_i i j
    have := lim_of hl
    have := lim_of hl2
    cases rv with
    | cons h1 h2 =>
      cases h1
      cases h2 with
      | cons h2 h3 =>
        cases h2; cases h3
        exact ⟨i, j, rfl, ⟨by omega, by omega, by omega, by omega⟩, q _ H1 e2 yl_range⟩
  · cases e3

/-! ### for -/
def mFor (g : MG) (body : MS) : List D → S → Out
  | [], s => .nx s
  | d :: ds, s => match g d s with
    | none => .no
    | some s1 => match body s1 with
      | .nx s2 => mFor g body ds s2
      | .ct s2 => mFor g body ds s2
      | .bk s2 => .nx s2
      | .rt d => .rt d
      | .rtl ds => .rtl ds
      | .ex c fs => .ex c fs
      | .no => .no
omit [LTb] in
theorem mFor_nil (g : MG) (body : MS) (s : S) : mFor g body [] s = .nx s := rfl
omit [LTb] in
theorem mFor_cons (g : MG) (body : MS) (d : D) (ds : List D) (s : S) : mFor g body (d :: ds) s = match g d s with
    | none => .no
    | some s1 => match body s1 with
      | .nx s2 => mFor g body ds s2
      | .ct s2 => mFor g body ds s2
      | .bk s2 => .nx s2
      | .rt d => .rt d
      | .rtl ds => .rtl ds
      | .ex c fs => .ex c fs
      | .no => .no := rfl
def mForS (mi : ML) (g : MG) (body : MS) : MS := fun s => match mi s with
  | some ds => mFor g body ds s
  | none => .no
theorem Tr.clean {rl : Rl} (wd : Wide rl) {σ' : St} {s' : S} (t : Tr σ s H1 σ' s' H2) {d : D} {v : V} {H3 : Hp} (h : rl (fun a => Cl G σ s a ∧ There H1 a) H3 v d) : rl (Cl G σ' s') H3 v d :=
  wd.go _ _ _ _ _ (fun a ⟨⟨g, n⟩, o, hH, m⟩ => ⟨g, (t a o hH n m).2⟩) h
theorem s_forR {rl : Rl} (wd : Wide rl) {it : Expr} {body : List Stmt} {g : MG} {ts : List Nat} {mb : MS} (hp : PassesOwn (model X.prog X.w) X.A X.env X.xe) (hc : X.calm = true) (hi : PI X tg it (iDr rl K ml)) (hg : PG X tg (gDr rl K ts g)) (hb : XSs K C E X body mb) (hs : ∀ x, foldedSetIterable it X.env x = pure x := by intro _; rfl) :
    XS K C E X (.For tg it body [] pos) (mForS ml g mb) := ps_imp (ps_for hp hc hi hg hb hs) fun Dn σ H ⟨H0, G, s, r, q⟩ => by
  unfold mForS at q
  cases hm : ml s with
  | none => rw [hm] at q; exact q.elim
  | some ds =>
    rw [hm] at q
    have q : Post K H0 G C E σ s H Dn (mFor g mb ds s) := q
    refine ⟨H0, G, s, ds, r, hm, fun J H1 e1 yl => ?_⟩
    refine ⟨fun i n σ' H' => ∃ s', n = ds.length - i ∧ i ≤ ds.length ∧ RS K H0 G σ' H' s' ∧ Tr σ s H1 σ' s' H' ∧ mFor g mb (ds.drop i) s' = mFor g mb ds s,
      ⟨ds.length, s, rfl, Nat.zero_le _, r.mono e1, Tr.refl _ _ _, rfl⟩, fun i n σ' H' ⟨s', en, hi', r', t', eo⟩ => ?_⟩
    have kp : Kp G σ s H1 H' := fun a o h n _ m => (t' a o h n m).1
    by_cases hlt : i < ds.length
    · have hd : ds[i]? = some ds[i] := List.getElem?_eq_getElem hlt
      rw [List.drop_eq_getElem_cons hlt] at eo
      refine .inr ⟨yl.go i _ H' hd kp, fun σ'' H'' => ∃ s', RS K H0 G σ'' H'' s' ∧ Tr σ s H1 σ'' s' H'' ∧ mFor g mb (ds.drop (i + 1)) s' = mFor g mb ds s, fun σ'' H'' ⟨s'', r'', t'', eo''⟩ => ⟨ds.length - (i + 1), by omega, s'', rfl, hlt, r'', t'', eo''⟩, fun x H3 y => ?_⟩
      obtain ⟨e3, rx⟩ := yl.yld i _ H' x H3 hd kp y
      rw [mFor_cons] at eo
      cases hgd : g ds[i] s' with
      | none =>
        simp only [hgd] at eo
        rw [← eo] at q
        exact q.elim
      | some s1 =>
        simp only [hgd] at eo
        refine ⟨H0, G, s', ds[i], s1, r'.mono e3, Tr.clean (rl := rl) wd t' rx, hgd, fun σ2 r2 t2 _ _ => ?_⟩
        have tt : Tr σ s H1 σ2 s1 H3 := (t'.trans (Tr.grow e3)).trans t2
        refine ⟨H0, G, s1, r2, ?_⟩
        cases hb' : mb s1 with
        | nx s2 =>
          simp only [hb'] at eo
          exact fun σ4 H4 r4 t4 => ⟨s2, r4, tt.trans t4, eo⟩
        | ct s2 =>
          simp only [hb'] at eo
          exact fun σ4 H4 r4 t4 => ⟨s2, r4, tt.trans t4, eo⟩
        | bk s2 =>
          simp only [hb'] at eo
          rw [← eo] at q
          exact fun σ4 H4 r4 t4 => q σ4 H4 r4 ((tt.trans t4).ex e1)
        | rt d =>
          simp only [hb'] at eo
          rw [← eo] at q
          exact q
        | rtl d =>
          simp only [hb'] at eo
          rw [← eo] at q
          exact q
        | ex c fs =>
          simp only [hb'] at eo
          rw [← eo] at q
          exact q
        | no =>
          simp only [hb'] at eo
          rw [← eo] at q
          exact q
    · have hie : i = ds.length := by omega
      subst hie
      rw [List.drop_length] at eo
      rw [mFor_nil] at eo
      rw [← eo] at q
      exact .inl ⟨yl.stop H' kp, q σ' H' r' (t'.ex e1)⟩

theorem s_for {it : Expr} {body : List Stmt} {g : MG} {ts : List Nat} {mb : MS} (hp : PassesOwn (model X.prog X.w) X.A X.env X.xe) (hc : X.calm = true) (hi : XI K X tg it ml) (hg : XG K X tg ts g) (hb : XSs K C E X body mb) (hs : ∀ x, foldedSetIterable it X.env x = pure x := by intro _; rfl) :
    XS K C E X (.For tg it body [] pos) (mForS ml g mb) := s_forR (rl := R K) (wideR K) hp hc hi hg hb hs
/-! ### [e for x in xs if t] -/
def mComp (g : MG) (mt : MB) (me : M) (s : S) : List D → Option (List D)
  | [] => some []
  | d :: ds => (g d s).bind fun s1 => (mt s1).bind fun b => if b = true then (me s1).bind fun y => (mComp g mt me s ds).map (y :: ·) else mComp g mt me s ds
def wipeS (s : S) : List Nat → S
  | [] => s
  | v :: vs => (wipeS s vs).set v none
def unowned (s : S) (vs : List Nat) : Bool := vs.all fun v => match s[v]? with
  | some (some (.own _)) => false
  | _ => true
def mLc (mi : ML) (g : MG) (mt : MB) (me : M) (vs : List Nat) : ML := fun s => if unowned s vs = true then (mi s).bind fun ds => if ds.length ≤ 50000 then mComp g mt me (wipeS s vs) ds else none else none
theorem wipe_at {σ : St} {j : Nat} : ∀ {vs : List Nat}, j ∈ vs → j < σ.length → (wipe σ vs)[j]? = some none := by
  intro vs
  induction vs with
  | nil => intro h _; cases h
  | cons v vs ih =>
    intro h hl
    show ((wipe σ vs).set v none)[j]? = some none
    by_cases hj : j = v
    · subst hj
      exact List.getElem?_set_self (by rw [wipe_length]; exact hl)
    · rw [List.getElem?_set_ne (Ne.symm hj)]
      exact ih ((List.mem_cons.mp h).resolve_left hj) hl
omit [LTb] in
theorem wipeS_out {s : S} {i : Nat} : ∀ {vs : List Nat}, i ∉ vs → (wipeS s vs)[i]? = s[i]? := by
  intro vs
  induction vs with
  | nil => intro _; rfl
  | cons v vs ih =>
    intro h
    show ((wipeS s vs).set v none)[i]? = s[i]?
    rw [List.getElem?_set_ne fun e => h (by simp [e]), ih fun z => h (List.mem_cons_of_mem _ z)]
theorem wipe_but {σ σ' : St} {ts vs : List Nat} (b : But ts (wipe σ vs) σ') (hs : ∀ t ∈ ts, t ∈ vs) : wipe σ' vs = wipe σ vs := by
  have hl : σ'.length = σ.length := b.1.trans (wipe_length σ vs)
  apply List.ext_getElem?
  intro j
  by_cases hj : j ∈ vs
  · by_cases hl2 : j < σ.length
    · rw [wipe_at hj (by omega), wipe_at hj hl2]
    · rw [List.getElem?_eq_none (by rw [wipe_length]; omega), List.getElem?_eq_none (by rw [wipe_length]; omega)]
  · rw [wipe_out hj, b.2 j fun z => hj (hs j z)]
theorem RS.forget (r : RS K H0 G σ H s) {v : Nat} (n : ∀ c : Cont, s[v]? ≠ some (some (Sl.own c))) : RS K H0 G (σ.set v none) H (s.set v none) ∧ ∀ a, Own (σ.set v none) (s.set v none) a ↔ Own σ s a := by
  have ow : ∀ a, Own (σ.set v none) (s.set v none) a ↔ Own σ s a := fun a => by
    constructor
    · rintro ⟨j, ds, h1, h2⟩
      rcases get_set h1 with ⟨_, e, _⟩ | ⟨hj, h1⟩
      · cases e
      · rw [List.getElem?_set_ne (Ne.symm hj)] at h2
        exact ⟨j, ds, h1, h2⟩
    · rintro ⟨j, ds, h1, h2⟩
      have hj : v ≠ j := fun e => n ds (e ▸ h1)
      exact ⟨j, ds, by rw [List.getElem?_set_ne hj]; exact h1, by rw [List.getElem?_set_ne hj]; exact h2⟩
  have cl : ∀ a, Cl G σ s a → Cl G (σ.set v none) (s.set v none) a := fun a z => ⟨z.1, fun o => z.2 ((ow a).mp o)⟩
  refine ⟨⟨by rw [List.length_set, List.length_set]; exact r.len, r.ex, r.new, fun j d h => ?_, fun j ds h => ?_, fun j k di dj a h1 h2 h3 h4 => ?_, fun j ks h => ?_, r.tb⟩, ow⟩
  · rcases get_set h with ⟨_, e, _⟩ | ⟨hj, h⟩
    · cases e
    · obtain ⟨u, h1, h2⟩ := r.sh j d h
      exact ⟨u, by rw [List.getElem?_set_ne (Ne.symm hj)]; exact h1, h2.wider cl⟩
  · rcases get_set h with ⟨_, e, _⟩ | ⟨hj, h⟩
    · cases e
    · obtain ⟨a, xs, h1, h2, h3, h4, h5⟩ := r.ow j ds h
      exact ⟨a, xs, by rw [List.getElem?_set_ne (Ne.symm hj)]; exact h1, h2, h3, h4, h5.wider cl⟩
  · rcases get_set h1 with ⟨_, e, _⟩ | ⟨n1, h1⟩
    · cases e
    rcases get_set h2 with ⟨_, e, _⟩ | ⟨n2, h2⟩
    · cases e
    rw [List.getElem?_set_ne (Ne.symm n1)] at h3
    rw [List.getElem?_set_ne (Ne.symm n2)] at h4
    exact r.inj j k di dj a h1 h2 h3 h4
  · rcases get_set h with ⟨_, e, _⟩ | ⟨hj, h⟩
    · cases e
    · obtain ⟨u, h1, h2⟩ := r.st j ks h
      exact ⟨u, by rw [List.getElem?_set_ne (Ne.symm hj)]; exact h1, h2⟩
theorem unowned_at {vs : List Nat} (u : unowned s vs = true) {v : Nat} (hv : v ∈ vs) (ds : Cont) : s[v]? ≠ some (some (Sl.own ds)) := fun h => by
  have := List.all_eq_true.mp u v hv
  rw [h] at this
  exact absurd this Bool.false_ne_true
theorem wipeS_ow {vs : List Nat} {j : Nat} {ds : Cont} (h : (wipeS s vs)[j]? = some (some (Sl.own ds))) : s[j]? = some (some (Sl.own ds)) := by
  induction vs with
  | nil => exact h
  | cons v vs ih =>
    rcases get_set (l := wipeS s vs) h with ⟨_, e, _⟩ | ⟨_, h⟩
    · cases e
    · exact ih h
theorem RS.wiped : ∀ {vs : List Nat}, RS K H0 G σ H s → unowned s vs = true → RS K H0 G (wipe σ vs) H (wipeS s vs) ∧ ∀ a, Own (wipe σ vs) (wipeS s vs) a ↔ Own σ s a
  | [], r, _ => ⟨r, fun _ => Iff.rfl⟩
  | v :: vs, r, u => by
    have u' : unowned s vs = true := by
      unfold unowned at u ⊢
      rw [List.all_cons, Bool.and_eq_true] at u
      exact u.2
    obtain ⟨r1, o1⟩ := RS.wiped r u'
    obtain ⟨r2, o2⟩ := r1.forget (v := v) fun ds h => unowned_at u List.mem_cons_self ds (wipeS_ow h)
    exact ⟨r2, fun a => (o2 a).trans (o1 a)⟩
/-- a new object at p is kept apart -/
theorem RS.but (r : RS K H0 G σ H s) {p : Addr} (hp : H p = none) (e : Ex H H') (h' : H' p ≠ none) : RS K H0 (fun a => G a ∧ a ≠ p) σ H' s := by
  have cl : ∀ a, Cl G σ s a ∧ a ≠ p → Cl (fun a => G a ∧ a ≠ p) σ s a := fun a z => ⟨⟨z.1.1, z.2⟩, z.1.2⟩
  refine ⟨r.len, r.ex.trans e, fun a h => ⟨r.new a (e.back h), fun q => h' (q ▸ h)⟩, fun j d h => ?_, fun j ds h => ?_, r.inj, fun j ks h => let ⟨u, h1, h2⟩ := r.st j ks h; ⟨u, h1, h2.ex e⟩, e.tb r.tb⟩
  · obtain ⟨u, h1, h2⟩ := r.sh j d h
    exact ⟨u, h1, ((h2.free hp).wider cl).ex e⟩
  · obtain ⟨a, xs, h1, h2, h3, h4, h5⟩ := r.ow j ds h
    exact ⟨a, xs, h1, e _ _ h2 h5.mu.nt, h3, ⟨h4, fun q => by rw [q, hp] at h2; cases h2⟩, ((h5.free hp).wider cl).ex e⟩
theorem RA.upd {p : Addr} {ys zs : List V} (hp : H p = some (.lst ys)) {ds : List D} {vs : List V} (h : RA K (fun a => B a ∧ a ≠ p) H vs ds) : RA K (fun a => B a ∧ a ≠ p) (L2.upd H p (.lst zs)) vs ds :=
  RA.to (fun a xs _ hb hr => ⟨hb, by
    rcases hr with h | ⟨o, h⟩
    · exact .inl (by rw [upd_ne hb.2]; exact h)
    · exact .inr ⟨o, by rw [upd_ne hb.2]; exact h⟩⟩) (fun a xs h => h.to fun o u q => by rw [upd_ne (fun w => by rw [w, hp] at q; cases q)]; exact q) (fun a o m q => by rw [upd_ne (fun w => by subst w; rw [hp] at q; cases q; exact mu_xo (.lst _) m)]; exact q) ds vs h
omit [LTb] in
theorem mComp_cons (g : MG) (mt : MB) (me : M) (s : S) (d : D) (ds : List D) : mComp g mt me s (d :: ds) = (g d s).bind fun s1 => (mt s1).bind fun b => if b = true then (me s1).bind fun y => (mComp g mt me s ds).map (y :: ·) else mComp g mt me s ds := rfl
theorem rdLcR {rl : Rl} (wd : Wide rl) {g : MG} {ts : List Nat} {mt : MB} {me : M} {vs : List Nat} (hts : ∀ t ∈ ts, t ∈ vs) {σ : St} {H : Hp} {Q : VK} (h : tL K (mLc ml g mt me vs) σ H Q) : tLc (iDr rl K ml) (gDr rl K ts g) (tT K mt) (tD K me) vs σ H Q := by
  obtain ⟨H0, G, s, es, r, e, q⟩ := h
  obtain ⟨hu, e⟩ := if_some e
  obtain ⟨ds, ed, e⟩ := some_bind e
  obtain ⟨hz, e⟩ := if_some e
  refine ⟨H0, G, s, ds, r, ed, fun J H1 e1 yl P hP => ?_⟩
  have r1 := r.mono e1
  refine ⟨fun i n H' => ∃ acc done, n = ds.length - i ∧ i ≤ ds.length ∧ Ex H1 H' ∧ H' P = some (.lst acc) ∧ RA K (fun a => Cl G σ s a ∧ a ≠ P) H' acc done ∧ done.length ≤ i ∧ (mComp g mt me (wipeS s vs) (ds.drop i)).map (done ++ ·) = some es,
    ⟨ds.length, [], [], rfl, Nat.zero_le _, Ex.new hP, upd_same, .nil, Nat.le_refl _, ?_⟩, fun i n H' ⟨acc, done, en, hi, ex, hacc, ra, hdl, em⟩ => ?_⟩
  · rw [List.drop_zero, e]; rfl
  have kp : Kp G σ s H1 H' := fun a o h _ _ m => ex a o h m
  by_cases hlt : i < ds.length
  · have hd : ds[i]? = some ds[i] := List.getElem?_eq_getElem hlt
    rw [List.drop_eq_getElem_cons hlt, mComp_cons] at em
    refine .inr ⟨yl.go i _ H' hd kp, fun H'' => ∃ acc done, Ex H1 H'' ∧ H'' P = some (.lst acc) ∧ RA K (fun a => Cl G σ s a ∧ a ≠ P) H'' acc done ∧ done.length ≤ i + 1 ∧ (mComp g mt me (wipeS s vs) (ds.drop (i + 1))).map (done ++ ·) = some es,
      fun H'' ⟨acc, done, z1, z2, z3, z4, z5⟩ => ⟨ds.length - (i + 1), by omega, acc, done, rfl, hlt, z1, z2, z3, z4, z5⟩, fun x H3 y => ?_⟩
    obtain ⟨e3, rx⟩ := yl.yld i _ H' x H3 hd kp y
    have hacc3 := e3 _ _ hacc
    cases hg : g ds[i] (wipeS s vs) with
    | none => rw [hg] at em; cases em
    | some s1 =>
      rw [hg, Option.bind_some] at em
      obtain ⟨rw1, ow1⟩ := (r1.but hP (ex.trans e3) (by rw [hacc3]; intro z; cases z)).wiped hu
      have up : ∀ a, Cl G (wipe σ vs) (wipeS s vs) a → Cl G σ s a := fun a z => ⟨z.1, fun o => z.2 ((ow1 a).mpr o)⟩
      refine ⟨H0, _, wipeS s vs, ds[i], s1, rw1, wd.go _ _ _ _ _ (fun a z => ⟨⟨z.1.1, fun w => rd_none (w ▸ z.2) hP⟩, fun o => z.1.2 ((ow1 a).mp o)⟩) rx, hg, fun σ2 r2 t2 b1 b2 => ⟨wipe_but b1 hts, ?_⟩⟩
      have down : ∀ a, Cl (fun a => G a ∧ a ≠ P) σ2 s1 a → Cl G σ s a ∧ a ≠ P := fun a z => ⟨⟨z.1.1, fun o => by
        obtain ⟨j, es', h1, h2⟩ := (ow1 a).mpr o
        have hj : j ∉ ts := fun w => unowned_at hu (hts j w) es' (wipeS_ow h1)
        exact z.2 ⟨j, es', by rw [b2.2 j hj]; exact h1, by rw [b1.2 j hj]; exact h2⟩⟩, z.1.2⟩
      cases eb : mt s1 with
      | none => rw [eb] at em; cases em
      | some b =>
      rw [eb, Option.bind_some] at em
      refine ⟨H0, _, s1, b, r2, eb, fun H4 e4 => ?_⟩
      have hacc4 := e4 _ _ hacc3
      cases b with
      | false =>
        refine iteF ?_
        rw [if_neg Bool.false_ne_true] at em
        exact ⟨acc, done, (ex.trans e3).trans e4, hacc4, (ra.ex e3).ex e4, by omega, em⟩
      | true =>
        refine iteT ?_
        rw [if_pos rfl] at em
        cases hy : me s1 with
        | none => rw [hy] at em; cases em
        | some y =>
          rw [hy, Option.bind_some] at em
          refine ⟨H0, _, s1, y, r2.mono e4, hy, fun v H5 e5 rv => ?_⟩
          have hacc5 := e5 _ _ hacc4
          have e15 := ((ex.trans e3).trans e4).trans e5
          refine ⟨acc, hacc5, sz_lt (by rw [ra.length]; omega), acc ++ [v], done ++ [y], e15.mut hP (.lst _) hacc5, upd_same, RA.upd hacc5 ((((ra.ex e3).ex e4).ex e5).append (.cons (rv.wider down) .nil)), by rw [List.length_append]; exact Nat.succ_le_succ hdl, ?_⟩
          rw [← em]
          cases mComp g mt me (wipeS s vs) (ds.drop (i + 1)) with
          | none => rfl
          | some zs => simp
  · have hie : i = ds.length := by omega
    subst hie
    rw [List.drop_length] at em
    have em2 : some (done ++ []) = some es := em
    cases em2
    rw [List.append_nil] at q
    exact .inl ⟨yl.stop H' kp, q P acc H' (e1.back hP) (e1.trans ex) hacc ra⟩
theorem rdLc {g : MG} {ts : List Nat} {mt : MB} {me : M} {vs : List Nat} (hts : ∀ t ∈ ts, t ∈ vs) {σ : St} {H : Hp} {Q : VK} (h : tL K (mLc ml g mt me vs) σ H Q) : tLc (iD K ml) (gD K ts g) (tT K mt) (tD K me) vs σ H Q := rdLcR (rl := R K) (wideR K) hts h
end
end DD

namespace DD
variable [LTb]
open PySem L2
section
variable {K : Fg} {X : Cx} {C : XC} {E : XK} {H0 H H' H1 H2 : Hp} {G B : Addr → Prop} {σ : St} {s : S} {tg e a b : Expr} {m ma mb : M} {ml : ML} {pos p : Pos} {es : List Expr}
/-! ### comprehensions as expressions -/
def mYes : MB := fun _ => some true
abbrev XTs (K : Fg) (X : Cx) (ifs : List Expr) (mt : MB) := PTs X ifs (tT K mt)
theorem ts_nil : XTs K X [] mYes := ⟨fun pins s σ H Q I ⟨H0, G, sd, b, r, e, q⟩ => pts_nil.run pins s σ H Q I (by cases e; exact q H (Ex.refl _))⟩
theorem ts_one {c : Expr} {mt : MB} (h : XT K X c mt) : XTs K X [c] mt := pts_one h
theorem l_lc {elt iter : Expr} {ifs : List Expr} {scope : Scope} {own : List (Str × Nat)} {mi : ML} {g : MG} {ts : List Nat} {mt : MB} {me : M} (hc : X.calm = true) (hN : X.N.Nodup) (hi : XI K X tg iter mi) (ok : BlkOk X.N X.env.scope scope own)
    (hg : ∀ (s : Shared) (H : Hp) (C : Addr) (cl : List (Str × Addr)) (fp : List Addr), XG K (X.blk s H scope (compEnvC scope cl C X.env) fp) tg ts g) (ht : ∀ (s : Shared) (H : Hp) (C : Addr) (cl : List (Str × Addr)) (fp : List Addr), XTs K (X.blk s H scope (compEnvC scope cl C X.env) fp) ifs mt)
    (he : ∀ (s : Shared) (H : Hp) (C : Addr) (cl : List (Str × Addr)) (fp : List Addr), XE K (X.blk s H scope (compEnvC scope cl C X.env) fp) elt me) (hts : ∀ t ∈ ts, t ∈ own.map (·.2)) (hs : ∀ x, foldedSetIterable iter X.env x = pure x := by intro _; rfl) :
    XL K X (.ListComp elt [⟨tg, iter, ifs, 0⟩] scope pos) (mLc mi g mt me (own.map (·.2))) := pe_imp (pe_lc hc hN hi ok hg ht he hs) fun _ _ _ h => rdLc hts h
theorem s_setLc {i : Nat} {y : Str} {py spos : Pos} {elt iter : Expr} {ifs : List Expr} {scope : Scope} {own : List (Str × Nat)} {mi : ML} {g : MG} {ts : List Nat} {mt : MB} {me : M} (hc : X.calm = true) (hN : X.N.Nodup) (hy : X.N[i]? = some y) (hyl : X.env.scope.names.lookup y = some .local)
    (hsw : swapsWith (.ListComp elt [⟨tg, iter, ifs, 0⟩] scope pos) (some (.Name y py)) spos.line X.env = pure true) (hi : XI K X tg iter mi) (ok : BlkOk X.N X.env.scope scope own)
    (hg : ∀ (s : Shared) (H : Hp) (C : Addr) (cl : List (Str × Addr)) (fp : List Addr), XG K (X.blk s H scope (compEnvC scope cl C X.env) fp) tg ts g) (ht : ∀ (s : Shared) (H : Hp) (C : Addr) (cl : List (Str × Addr)) (fp : List Addr), XTs K (X.blk s H scope (compEnvC scope cl C X.env) fp) ifs mt)
    (he : ∀ (s : Shared) (H : Hp) (C : Addr) (cl : List (Str × Addr)) (fp : List Addr), XE K (X.blk s H scope (compEnvC scope cl C X.env) fp) elt me) (hts : ∀ t ∈ ts, t ∈ own.map (·.2)) (hs : ∀ x, foldedSetIterable iter X.env x = pure x := by intro _; rfl) :
    XS K C E X (.Assign [.Name y py] (.ListComp elt [⟨tg, iter, ifs, 0⟩] scope pos) spos) (mAsgL i (mLc mi g mt me (own.map (·.2)))) := by
  refine ps_imp (ps_setLc hc hN hy hyl hsw hi ok hg ht he hs) fun Dn σ H h => ?_
  have h2 : tAsg (tL K (mLc mi g mt me (own.map (·.2)))) (gName i) Dn σ H := rdAsgL h
  exact rdLc hts h2

/-! ### own functions -/
def PostF (K : Fg) (C : XC) (B : Addr → Prop) (H : Hp) (Q : VK) (E : XK) : Out → Prop
  | .nx _ => ∀ H', Ex H H' → Q .non H'
  | .rt d => ∀ v H', Ex H H' → R K (fun a => B a ∨ H a = none) H' v d → Q v H'
  | .rtl ds => ∀ p xs H', H p = none → Ex H H' → H' p = some (.lst xs) → RA K (fun a => (B a ∨ H a = none) ∧ a ≠ p) H' xs ds → Q (.ref p) H'
  | .ex c fs => ∀ cls d H', Ex H H' → C c fs cls d H' → E cls d H'
  | _ => False
abbrev MF := List D → Out
def spD (K : Fg) (C : XC) (n : Nat) (m : MF) : Sp := fun vs H Q E => ∃ B ds, ds.length = n ∧ RA K B H vs ds ∧ TabOk H ∧ PostF K C B H Q E (m ds)
/-- an own function as its callers see it -/
structure Cal (P : Program) (w : World) (K : Fg) (mg : Str → Option Value) (base : Heap) (CX : CXT) (C : XC) (k : Nat) (x : Str) (n : Nat) (m : MF) : Prop where
  ex : ∃ f fd ps, FnOk P w K mg base CX k f fd ps (spD K C n m) ∧ mg x = some (.ref f) ∧ PySem.W.keepIn K (.ref f) = true ∧ Binds K fd ps []
/-- an own function's value from its answer -/
def valOf : Out → Option D
  | .nx _ => some .none
  | .rt d => some d
  | .rtl ds => some (.list ds)
  | _ => none
def lstOf : Out → Option (List D)
  | .rtl ds => some ds
  | _ => none
def guard (f : D → Bool) (d : D) : Option D := if f d = true then some d else none
def okList : List D → Option (List D) := fun ds => if flatD.go ds = true then some ds else none
/-- f(..) with clean arguments -/
def mCall (n : Nat) (f : MF) (as : ML) : M := fun s => (as s).bind fun ds => if ds.length = n then valOf (f ds) else none
/-- .. with any arguments: what comes back holds no list of theirs -/
def mCallB (n : Nat) (f : MF) (as : ML) : M := fun s => (as s).bind fun ds => if ds.length = n then (match f ds with
  | .nx _ => some .none
  | .rt d => guard flatD d
  | .rtl es => if flatD.go es = true then some (.list es) else none
  | _ => none) else none
def mCallL (n : Nat) (f : MF) (as : ML) : ML := fun s => (as s).bind fun ds => if ds.length = n then lstOf (f ds) else none
def mCallBL (n : Nat) (f : MF) (as : ML) : ML := fun s => (as s).bind fun ds => if ds.length = n then (lstOf (f ds)).bind okList else none
section
variable {CX : CXT} {k n : Nat} {x : Str} {f : MF} {E0' : XK}
theorem call_pe {t : TA} (c : Cal X.prog X.w X.K X.mg X.base CX C k x n f) (hr : Room k X.A) (hg : Gl X x) (hx : Passes CX X E) (ha : PA X (e :: es) t) (hdb : (x == ("__debug__" : Str)) = false := by decide)
    (he : starEach (e :: es) X.env = (false, eval e X.env) :: starEach es X.env := by rfl) (hpl : (backTo pos (starEach es X.env)).any (·.1) = false := by rfl) :
    PE X (.Call (.Name x p) (e :: es) [] pos) (tCall (spD X.K C n f) [] E t) := by
  obtain ⟨g, fd, ps, F, hm, hk, hb⟩ := c.ex
  exact pe_call F hr hg hm hk hb .nil hx ha hdb he hpl
theorem call_pe0 (c : Cal X.prog X.w X.K X.mg X.base CX C k x n f) (hr : Room k X.A) (hg : Gl X x) (hx : Passes CX X E) (hdb : (x == ("__debug__" : Str)) = false := by decide) :
    PE X (.Call (.Name x p) [] [] pos) (tCall (spD X.K C n f) [] E tNil) := by
  obtain ⟨g, fd, ps, F, hm, hk, hb⟩ := c.ex
  exact pe_call0 F hr hg hm hk hb .nil hx hdb
theorem rdCall {σ : St} {H : Hp} {Q : VK} (h : tD K (mCall n f ml) σ H Q) : tCall (spD K C n f) [] E (tAc K ml) σ H Q := by
  obtain ⟨H0, G, s, d, r, e, q⟩ := h
  obtain ⟨ds, ed, e⟩ := some_bind e
  obtain ⟨hn, e⟩ := if_some e
  refine ⟨H0, G, s, ds, r, ed, fun vs H1 e1 rv => ⟨_, ds, hn, by rw [List.append_nil]; exact rv, e1.tb r.tb, ?_⟩⟩
  have r1 := r.mono e1
  have up : ∀ a, (Cl G σ s a ∨ H1 a = none) → Cl G σ s a := fun a z => z.elim id fun h => ⟨r1.new a h, r1.own_not h⟩
  cases ho : f ds with
  | nx _ => rw [ho] at e; cases e; exact fun H2 e2 => q _ H2 (e1.trans e2) .non
  | rt d' => rw [ho] at e; cases e; exact fun v H2 e2 rv => q v H2 (e1.trans e2) (rv.wider up)
  | rtl es => rw [ho] at e; cases e; exact fun p xs H2 hp e2 h2 ra => q _ H2 (e1.trans e2) (.lst (.inl ⟨up p (.inr hp), .inl h2⟩) (ra.wider fun a z => up a z.1))
  | ex c fs => rw [ho] at e; cases e
  | bk _ => rw [ho] at e; cases e
  | ct _ => rw [ho] at e; cases e
  | no => rw [ho] at e; cases e
theorem rdCallL {σ : St} {H : Hp} {Q : VK} (h : tL K (mCallL n f ml) σ H Q) : tCall (spD K C n f) [] E (tAc K ml) σ H Q := by
  obtain ⟨H0, G, s, d, r, e, q⟩ := h
  obtain ⟨ds, ed, e⟩ := some_bind e
  obtain ⟨hn, e⟩ := if_some e
  refine ⟨H0, G, s, ds, r, ed, fun vs H1 e1 rv => ⟨_, ds, hn, by rw [List.append_nil]; exact rv, e1.tb r.tb, ?_⟩⟩
  have r1 := r.mono e1
  have up : ∀ a, (Cl G σ s a ∨ H1 a = none) → Cl G σ s a := fun a z => z.elim id fun h => ⟨r1.new a h, r1.own_not h⟩
  cases ho : f ds with
  | rtl es => rw [ho] at e; cases e; exact fun p xs H2 hp e2 h2 ra => q p xs H2 (e1.back hp) (e1.trans e2) h2 (ra.wider fun a z => ⟨up a z.1, z.2⟩)
  | _ => rw [ho] at e; cases e
theorem rdCallB {σ : St} {H : Hp} {Q : VK} (h : tD K (mCallB n f ml) σ H Q) : tCall (spD K C n f) [] E (tAb K ml) σ H Q := by
  obtain ⟨H0, G, s, d, r, e, q⟩ := h
  obtain ⟨ds, ed, e⟩ := some_bind e
  obtain ⟨hn, e⟩ := if_some e
  refine ⟨H0, G, s, ds, r, ed, fun vs H1 e1 rv => ⟨_, ds, hn, by rw [List.append_nil]; exact rv, e1.tb r.tb, ?_⟩⟩
  have r1 := r.mono e1
  cases ho : f ds with
  | nx _ => rw [ho] at e; cases e; exact fun H2 e2 => q _ H2 (e1.trans e2) .non
  | rt d' =>
    rw [ho] at e
    obtain ⟨hf, e⟩ := if_some e
    cases e
    exact fun v H2 e2 rv => q v H2 (e1.trans e2) (R.flat _ _ hf rv)
  | rtl es =>
    rw [ho] at e
    obtain ⟨hf, e⟩ := if_some e
    cases e
    exact fun p xs H2 hp e2 h2 ra => q _ H2 (e1.trans e2) (.lst (.inl ⟨⟨r1.new p hp, r1.own_not hp⟩, .inl h2⟩) (RA.flat _ _ hf ra))
  | ex c fs => rw [ho] at e; cases e
  | bk _ => rw [ho] at e; cases e
  | ct _ => rw [ho] at e; cases e
  | no => rw [ho] at e; cases e
theorem rdCallBL {σ : St} {H : Hp} {Q : VK} (h : tL K (mCallBL n f ml) σ H Q) : tCall (spD K C n f) [] E (tAb K ml) σ H Q := by
  obtain ⟨H0, G, s, d, r, e, q⟩ := h
  obtain ⟨ds, ed, e⟩ := some_bind e
  obtain ⟨hn, e⟩ := if_some e
  refine ⟨H0, G, s, ds, r, ed, fun vs H1 e1 rv => ⟨_, ds, hn, by rw [List.append_nil]; exact rv, e1.tb r.tb, ?_⟩⟩
  cases ho : f ds with
  | rtl es =>
    rw [ho] at e
    obtain ⟨hf, e⟩ := if_some (show (if flatD.go es = true then some es else none) = some d from e)
    cases e
    exact fun p xs H2 hp e2 h2 ra => q p xs H2 (e1.back hp) (e1.trans e2) h2 (RA.flat _ _ hf ra)
  | _ => rw [ho] at e; cases e
end
end
end DD

namespace DD
variable [LTb]
open PySem L2
section
variable {K : Fg} {X : Cx} {C : XC} {E : XK} {H0 H H' H1 H2 : Hp} {G B : Addr → Prop} {σ : St} {s : S} {tg e a b : Expr} {m ma mb : M} {ml : ML} {pos p p2 : Pos} {es : List Expr}
/-! ### built-in functions -/
def CallS (K : Fg) (r : List V → Hp → VK → Prop) (f : List D → Option D) : Prop := ∀ (H : Hp) (vs : List V) (ds : List D) (z : D), RA K (fun _ => True) H vs ds → f ds = some z → ∃ v, R K (fun _ => False) H v z ∧ ∀ Q : VK, Q v H → r vs H Q
def mBi (f : List D → Option D) (as : ML) : M := fun s => (as s).bind f
theorem rdBi {r : List V → Hp → VK → Prop} {f : List D → Option D} (hs : CallS K r f) {σ : St} {H : Hp} {Q : VK} (h : tD K (mBi f ml) σ H Q) : tCB r (tAb K ml) σ H Q := by
  obtain ⟨H0, G, s, d, rs, e, q⟩ := h
  obtain ⟨ds, ed, ez⟩ := some_bind e
  refine ⟨H0, G, s, ds, rs, ed, fun vs H1 e1 rv => ?_⟩
  obtain ⟨w, hw, k⟩ := hs H1 vs ds d rv ez
  exact k Q (q w H1 e1 (hw.wider fun _ z => z.elim))
theorem bootB_len : bootBuiltins ("len" : Str) = some (.builtin "len") := PySem.boot_len
def fLen : List D → Option D
  | [.list ds] => some (.int ds.length)
  | [.tuple ds] => some (.int ds.length)
  | [.str z] => if z.length ≤ 100000 then some (.int z.length) else none
  | _ => none
theorem RA.one {d : D} {vs : List V} (h : RA K B H vs [d]) : ∃ v, vs = [v] ∧ R K B H v d := by
  cases h with
  | cons h1 h2 => cases h2; exact ⟨_, rfl, h1⟩
theorem RA.two {d e : D} {vs : List V} (h : RA K B H vs [d, e]) : ∃ v u, vs = [v, u] ∧ R K B H v d ∧ R K B H u e := by
  cases h with
  | cons h1 h2 =>
    cases h2 with
    | cons h2 h3 => cases h3; exact ⟨_, _, rfl, h1, h2⟩
def rLenD (K : Fg) : List V → Hp → VK → Prop := fun xs H Q => (∃ p ys, xs = [.ref p] ∧ (SqL K H p ys ∨ SqT K H p ys) ∧ Q (.int ys.length) H) ∨ (∃ z, xs = [.str z] ∧ z.length ≤ sizeLine ∧ Q (.int z.length) H)
theorem cs_len : CallS K (rLenD K) fLen := by
  intro H vs ds z rv hz
  unfold fLen at hz
  split at hz
  · cases hz
    obtain ⟨v, rfl, r⟩ := rv.one
    cases r with
    | lst hr ha => exact ⟨_, .int _, fun Q q => .inl ⟨_, _, rfl, .inl hr.sql, by rw [ha.length]; exact q⟩⟩
  · cases hz
    obtain ⟨v, rfl, r⟩ := rv.one
    cases r with
    | tup hr ha => exact ⟨_, .int _, fun Q q => .inl ⟨_, _, rfl, .inr hr.sqt, by rw [ha.length]; exact q⟩⟩
  · obtain ⟨hl, hz⟩ := if_some hz
    cases hz
    obtain ⟨v, rfl, r⟩ := rv.one
    cases r
    exact ⟨_, .int _, fun Q q => .inr ⟨_, rfl, sz_le hl, q⟩⟩
  · cases hz
theorem x_len (hK : X.K = K) (hg : Gl X "len") (hm : X.mg "len" = none) (ha : XAb K X [e] ml) (he : starEach [e] X.env = (false, eval e X.env) :: starEach [] X.env := by rfl) (hpl : (backTo pos (starEach [] X.env)).any (·.1) = false := by rfl) :
    XE K X (.Call (.Name "len" p) [e] [] pos) (mBi fLen ml) := by
  subst hK
  exact pe_imp (pe_callB (call_len_seq.or call_len_str) hg hm PySem.boot_len ha (by decide) (by decide) he hpl) fun _ _ _ h => rdBi cs_len h
def fAbs : List D → Option D
  | [.int i] => some (.int (if i < 0 then -i else i))
  | _ => none
theorem x_abs (hg : Gl X "abs") (hm : X.mg "abs" = none) (ha : XAb K X [e] ml) (he : starEach [e] X.env = (false, eval e X.env) :: starEach [] X.env := by rfl) (hpl : (backTo pos (starEach [] X.env)).any (·.1) = false := by rfl) :
    XE K X (.Call (.Name "abs" p) [e] [] pos) (mBi fAbs ml) := by
  refine pe_imp (pe_callB call_abs hg hm (by decide +kernel) ha (by decide) (by decide) he hpl) fun _ _ _ h => rdBi ?_ h
  intro H vs ds z rv hz
  unfold fAbs at hz
  split at hz
  · cases hz
    obtain ⟨v, rfl, r⟩ := rv.one
    cases r
    exact ⟨_, .int _, fun Q q => ⟨_, rfl, q⟩⟩
  · cases hz
def fMax2 : List D → Option D
  | [.int i, .int j] => some (.int (if j > i then j else i))
  | _ => none
def fMin2 : List D → Option D
  | [.int i, .int j] => some (.int (if j < i then j else i))
  | _ => none
theorem x_max2 (hc : X.calm = true) (hg : Gl X "max") (hm : X.mg "max" = none) (ha : XAb K X [a, b] ml) (he : starEach [a, b] X.env = (false, eval a X.env) :: starEach [b] X.env := by rfl) (hpl : (backTo pos (starEach [b] X.env)).any (·.1) = false := by rfl) :
    XE K X (.Call (.Name "max" p) [a, b] [] pos) (mBi fMax2 ml) := by
  refine pe_imp (pe_callB (call_max2 hc) hg hm (by decide +kernel) ha (by decide) (by decide) he hpl) fun _ _ _ h => rdBi ?_ h
  intro H vs ds z rv hz
  unfold fMax2 at hz
  split at hz
  · cases hz
    obtain ⟨v, u, rfl, r1, r2⟩ := rv.two
    cases r1; cases r2
    exact ⟨_, .int _, fun Q q => ⟨_, _, rfl, q⟩⟩
  · cases hz
theorem x_min2 (hc : X.calm = true) (hg : Gl X "min") (hm : X.mg "min" = none) (ha : XAb K X [a, b] ml) (he : starEach [a, b] X.env = (false, eval a X.env) :: starEach [b] X.env := by rfl) (hpl : (backTo pos (starEach [b] X.env)).any (·.1) = false := by rfl) :
    XE K X (.Call (.Name "min" p) [a, b] [] pos) (mBi fMin2 ml) := by
  refine pe_imp (pe_callB (call_min2 hc) hg hm (by decide +kernel) ha (by decide) (by decide) he hpl) fun _ _ _ h => rdBi ?_ h
  intro H vs ds z rv hz
  unfold fMin2 at hz
  split at hz
  · cases hz
    obtain ⟨v, u, rfl, r1, r2⟩ := rv.two
    cases r1; cases r2
    exact ⟨_, .int _, fun Q q => ⟨_, _, rfl, q⟩⟩
  · cases hz
def fInt1 : List D → Option D
  | [.int i] => some (.int i)
  | [.bool b] => some (.int (if b then 1 else 0))
  | _ => none
theorem x_int1 (hg : Gl X "int") (hm : X.mg "int" = none) (ha : XAb K X [e] ml) (he : starEach [e] X.env = (false, eval e X.env) :: starEach [] X.env := by rfl) (hpl : (backTo pos (starEach [] X.env)).any (·.1) = false := by rfl) :
    XE K X (.Call (.Name "int" p) [e] [] pos) (mBi fInt1 ml) := by
  refine pe_imp (pe_callTy call_int1 hg hm (by decide +kernel) ha (by decide) (by decide) he hpl) fun _ _ _ h => rdBi ?_ h
  intro H vs ds z rv hz
  unfold fInt1 at hz
  split at hz
  · cases hz
    obtain ⟨v, rfl, r⟩ := rv.one
    cases r
    exact ⟨_, .int _, fun Q q => .inl ⟨_, rfl, q⟩⟩
  · cases hz
    obtain ⟨v, rfl, r⟩ := rv.one
    cases r
    exact ⟨_, .int _, fun Q q => .inr ⟨_, rfl, q⟩⟩
  · cases hz
/-- list(x), tuple(x) of a list or a tuple -/
def mListOf (as : ML) : ML := fun s => (as s).bind fun ds => match ds with
  | [d] => items d
  | _ => none
theorem l_listOf (hK : X.K = K) (hg : Gl X "list") (hm : X.mg "list" = none) (ha : XB K X e m) (he : starEach [e] X.env = (false, eval e X.env) :: starEach [] X.env := by rfl) (hpl : (backTo pos (starEach [] X.env)).any (·.1) = false := by rfl) :
    XL K X (.Call (.Name "list" p) [e] [] pos) (iSeq m) := by
  subst hK
  refine pe_imp (pe_callTy call_list_of hg hm (by decide +kernel) (pa_cons ha pa_nil he) (by decide) (by decide) he hpl) fun σ H Q ⟨H0, G, s, d, rs, e, q⟩ => ?_
  obtain ⟨x, ex, e⟩ := some_bind e
  refine ⟨H0, G, s, x, rs, ex, fun v H1 e1 rv => ?_⟩
  unfold items at e
  split at e
  · cases e
    obtain ⟨p, xs, rfl, hr, ra⟩ := RB.items rs e1 rv
    exact ⟨p, xs, rfl, .inl hr, fun o ho => q o _ _ (e1.back ho) (e1.trans (Ex.new ho)) upd_same ((ra.free ho).ex (Ex.new ho))⟩
  · cases e
    obtain ⟨p, xs, rfl, hr, ra⟩ := RB.itemsT rv
    exact ⟨p, xs, rfl, .inr hr.sqt, fun o ho => q o _ _ (e1.back ho) (e1.trans (Ex.new ho)) upd_same ((ra.free ho).ex (Ex.new ho))⟩
  · cases e
def mTupOf (m : M) : M := fun s => (m s).bind fun d => (items d).map .tuple
def rTupF (K : Fg) : List V → Hp → VK → Prop := fun xs H Q => ∃ p ys, xs = [.ref p] ∧ ((SqL K H p ys ∧ ∀ l o, H l = none → o.cls = .type "tuple" → o.dict = none → Q (.ref l) (upd H l (.frz o (.tup ys)))) ∨ (SqT K H p ys ∧ Q (.ref p) H))
theorem call_tupF : CallR X (.type "tuple") (rTupF X.K) := fun pins s σ H xs us Q I r h => by
  obtain ⟨p, ys, rfl, h⟩ := h
  obtain ⟨u, rfl, rx⟩ := vals1 r
  cases rx
  rcases h with ⟨hq, q⟩ | ⟨hq, q⟩
  · obtain ⟨its, r', pl, hz⟩ := I.list hq
    have n1 := r'.length
    refine PySem.call_tuple_list pl.isList (fun h' kp => ?_) (by rw [List.size_toArray]; omega)
    have J : Inv X pins σ H { s with heap := h' } := I.kept (t' := s.toks) kp
    exact ⟨.ref _, _, tup_laid (t' := s.toks) J r' hz, rfl, q _ _ J.hok.free0 rfl rfl⟩
  · obtain ⟨its, r', pl, hz⟩ := I.tuple hq
    exact PySem.call_tuple_same pl ⟨.ref p, H, I, rfl, q⟩
theorem x_tupOf (hK : X.K = K) (hg : Gl X "tuple") (hm : X.mg "tuple" = none) (ha : XB K X e m) (he : starEach [e] X.env = (false, eval e X.env) :: starEach [] X.env := by rfl) (hpl : (backTo pos (starEach [] X.env)).any (·.1) = false := by rfl) :
    XE K X (.Call (.Name "tuple" p) [e] [] pos) (mTupOf m) := by
  subst hK
  refine pe_imp (pe_callTy call_tupF hg hm (by decide +kernel) (pa_cons ha pa_nil he) (by decide) (by decide) he hpl) fun σ H Q ⟨H0, G, s, d, rs, e, q⟩ => ?_
  obtain ⟨x, ex, e⟩ := some_bind e
  obtain ⟨ds, ed, rfl⟩ := Option.map_eq_some_iff.mp e
  refine ⟨H0, G, s, x, rs, ex, fun v H1 e1 rv => ?_⟩
  unfold items at ed
  split at ed
  · cases ed
    obtain ⟨p, xs, rfl, hr, ra⟩ := RB.items rs e1 rv
    exact ⟨p, xs, rfl, .inl ⟨hr, fun l o ho hc hd => q _ _ (e1.trans (Ex.new ho)) (.tup (.inl ⟨o, upd_same, hc, hd⟩) (ra.ex (Ex.new ho)))⟩⟩
  · cases ed
    obtain ⟨p, xs, rfl, hr, ra⟩ := RB.itemsT rv
    exact ⟨p, xs, rfl, .inr ⟨hr.sqt, q _ H1 e1 (.tup hr ra)⟩⟩
  · cases ed

/-! ### isinstance against a built-in type -/
def tyName : D → String
  | .none => "NoneType"
  | .bool _ => "bool"
  | .int _ => "int"
  | .str _ => "str"
  | .list _ => "list"
  | .tuple _ => "tuple"
  | .dict _ => "dict"
theorem R.tyx {v : V} {d : D} (h : R K B H v d) (nd : ∀ kvs, d ≠ .dict kvs) : TyX K H v (.type (tyName d)) := by
  cases h with
  | dic _ _ _ => exact (nd _ rfl).elim
  | obj _ _ _ _ => exact (nd _ rfl).elim
  | non => exact .base .non
  | bl b => exact .base (.bl b)
  | int i => exact .base (.int i)
  | str q => exact .base (.str _)
  | lst hr ha =>
    rcases hr with ⟨_, h | ⟨o, h⟩⟩ | ⟨o, its, n, hk, hc, _⟩
    · exact .base (.lst h)
    · exact .base (.frz h)
    · exact .kList hk hc
  | tup hr ha =>
    rcases hr with ⟨o, h, _⟩ | ⟨o, its, n, hk, hc, _⟩
    · exact .fTuple h
    · exact .kTuple hk hc
/-- which data is of a type: the table tells it -/
def IsTab (T : String) (f : D → Bool) : Prop := ∀ d, (∀ kvs, d ≠ .dict kvs) → kitB (tyName d) T = some (f d)
def isInt : D → Bool
  | .int _ => true
  | .bool _ => true
  | _ => false
def isBool : D → Bool
  | .bool _ => true
  | _ => false
def isStr : D → Bool
  | .str _ => true
  | _ => false
def isTuple : D → Bool
  | .tuple _ => true
  | _ => false
def isList : D → Bool
  | .list _ => true
  | _ => false
theorem tab_int : IsTab "int" isInt := fun d hd => match d, hd with
  | .none, _ => (by decide +kernel : kitB "NoneType" "int" = some false)
  | .bool _, _ => (by decide +kernel : kitB "bool" "int" = some true)
  | .int _, _ => (by decide +kernel : kitB "int" "int" = some true)
  | .str _, _ => (by decide +kernel : kitB "str" "int" = some false)
  | .list _, _ => (by decide +kernel : kitB "list" "int" = some false)
  | .tuple _, _ => (by decide +kernel : kitB "tuple" "int" = some false)
  | .dict kvs, hd => (hd kvs rfl).elim
theorem tab_bool : IsTab "bool" isBool := fun d hd => match d, hd with
  | .none, _ => (by decide +kernel : kitB "NoneType" "bool" = some false)
  | .bool _, _ => (by decide +kernel : kitB "bool" "bool" = some true)
  | .int _, _ => (by decide +kernel : kitB "int" "bool" = some false)
  | .str _, _ => (by decide +kernel : kitB "str" "bool" = some false)
  | .list _, _ => (by decide +kernel : kitB "list" "bool" = some false)
  | .tuple _, _ => (by decide +kernel : kitB "tuple" "bool" = some false)
  | .dict kvs, hd => (hd kvs rfl).elim
theorem tab_str : IsTab "str" isStr := fun d hd => match d, hd with
  | .none, _ => (by decide +kernel : kitB "NoneType" "str" = some false)
  | .bool _, _ => (by decide +kernel : kitB "bool" "str" = some false)
  | .int _, _ => (by decide +kernel : kitB "int" "str" = some false)
  | .str _, _ => (by decide +kernel : kitB "str" "str" = some true)
  | .list _, _ => (by decide +kernel : kitB "list" "str" = some false)
  | .tuple _, _ => (by decide +kernel : kitB "tuple" "str" = some false)
  | .dict kvs, hd => (hd kvs rfl).elim
theorem tab_tuple : IsTab "tuple" isTuple := fun d hd => match d, hd with
  | .none, _ => (by decide +kernel : kitB "NoneType" "tuple" = some false)
  | .bool _, _ => (by decide +kernel : kitB "bool" "tuple" = some false)
  | .int _, _ => (by decide +kernel : kitB "int" "tuple" = some false)
  | .str _, _ => (by decide +kernel : kitB "str" "tuple" = some false)
  | .list _, _ => (by decide +kernel : kitB "list" "tuple" = some false)
  | .tuple _, _ => (by decide +kernel : kitB "tuple" "tuple" = some true)
  | .dict kvs, hd => (hd kvs rfl).elim
theorem tab_list : IsTab "list" isList := fun d hd => match d, hd with
  | .none, _ => (by decide +kernel : kitB "NoneType" "list" = some false)
  | .bool _, _ => (by decide +kernel : kitB "bool" "list" = some false)
  | .int _, _ => (by decide +kernel : kitB "int" "list" = some false)
  | .str _, _ => (by decide +kernel : kitB "str" "list" = some false)
  | .list _, _ => (by decide +kernel : kitB "list" "list" = some true)
  | .tuple _, _ => (by decide +kernel : kitB "tuple" "list" = some false)
  | .dict kvs, hd => (hd kvs rfl).elim
def notDict : D → Bool
  | .dict _ => false
  | _ => true
theorem no_dict {d : D} (h : notDict d = true) : ∀ kvs, d ≠ .dict kvs := fun kvs e => by subst e; cases h
def mIsi (f : D → Bool) (m : M) : M := fun s => (m s).bind fun d => if notDict d = true then some (.bool (f d)) else none
theorem x_isi {T : String} {f : D → Bool} (ht : IsTab T f) (hK : X.K = K) (hg : Gl X "isinstance") (hm : X.mg "isinstance" = none) (ha : XB K X a m) (hb : PE X b (tC (.ty T))) (he : starEach [a, b] X.env = (false, eval a X.env) :: starEach [b] X.env := by rfl) (hpl : (backTo pos (starEach [b] X.env)).any (·.1) = false := by rfl) (hb2 : starEach [b] X.env = (false, eval b X.env) :: starEach [] X.env := by rfl) :
    XE K X (.Call (.Name "isinstance" p) [a, b] [] pos) (mIsi f m) := by
  subst hK
  refine pe_imp (pe_callB call_isi hg hm (by decide +kernel) (pa_cons ha (pa_cons hb pa_nil hb2) he) (by decide) (by decide) he hpl) fun σ H Q ⟨H0, G, s, d, rs, e, q⟩ => ?_
  obtain ⟨x, ex, e⟩ := some_bind e
  obtain ⟨nd, e⟩ := if_some e
  cases e
  refine ⟨H0, G, s, x, rs, ex, fun v H1 e1 rv => ?_⟩
  have ra := RB.any rs e1 rv
  exact ⟨v, .ty T, .type (tyName x), .type T, f x, rfl, .ty T, ra.tyx (no_dict nd), kit_ty (ht x (no_dict nd)), q _ H1 e1 (.bl _)⟩
theorem ty_int (hg : Gl X "int") (hm : X.mg "int" = none) : PE X (.Name "int" p) (tC (.ty "int")) := pe_bltn hg hm (by decide +kernel) (show RelV (.ty "int") (.type "int") from rfl)
theorem ty_bool (hg : Gl X "bool") (hm : X.mg "bool" = none) : PE X (.Name "bool" p) (tC (.ty "bool")) := pe_bltn hg hm (by decide +kernel) (show RelV (.ty "bool") (.type "bool") from rfl)
theorem ty_str (hg : Gl X "str") (hm : X.mg "str" = none) : PE X (.Name "str" p) (tC (.ty "str")) := pe_bltn hg hm (by decide +kernel) (show RelV (.ty "str") (.type "str") from rfl)
theorem ty_tuple (hg : Gl X "tuple") (hm : X.mg "tuple" = none) : PE X (.Name "tuple" p) (tC (.ty "tuple")) := pe_bltn hg hm (by decide +kernel) (show RelV (.ty "tuple") (.type "tuple") from rfl)
theorem ty_list (hg : Gl X "list") (hm : X.mg "list" = none) : PE X (.Name "list" p) (tC (.ty "list")) := pe_bltn hg hm (by decide +kernel) (show RelV (.ty "list") (.type "list") from rfl)
end

/-! ### a def's promise from its body -/
def startS (n : Nat) (ds : List D) : S := ds.map (fun d => some (.sh d)) ++ List.replicate (n - ds.length) none
def mFn (n : Nat) (body : MS) : MF := fun ds => body (startS n ds)
section
variable {P : Program} {w : World} {K : Fg} {mg : Str → Option Value} {base : Heap} {C : XC} {CX : CXT}
theorem start_no {B : Addr → Prop} {H : Hp} {n : Nat} {ds : List D} {vs : List V} (h : RA K B H vs ds) (a : Addr) {N : List Str} : ¬ Own (start N vs) (startS n ds) a := fun ⟨i, es, h1, _⟩ => by
  unfold startS at h1
  rw [List.getElem?_append] at h1
  split at h1
  · rw [List.getElem?_map] at h1
    cases q : ds[i]? with
    | none => rw [q] at h1; cases h1
    | some d => rw [q] at h1; cases h1
  · rw [List.getElem?_replicate] at h1
    split at h1 <;> cases h1
theorem rs_start {B : Addr → Prop} {H : Hp} {N : List Str} {ds : List D} {vs : List V} (h : RA K B H vs ds) (ht : TabOk H) (hl : ds.length ≤ N.length) : RS K H (fun a => B a ∨ H a = none) (start N vs) H (startS N.length ds) := by
  have no := fun a => start_no (n := N.length) (N := N) h a
  refine ⟨?_, Ex.refl H, fun a h => .inr h, fun i d e => ?_, fun i es e => ?_, fun i j di dj a e => ?_, fun i ks e => ?_, ht⟩
  · unfold L2.start startS
    rw [List.length_append, List.length_append, List.length_map, List.length_map, h.length, List.length_replicate, List.length_replicate]
  · unfold startS at e
    rw [List.getElem?_append] at e
    split at e
    · rename_i hi
      rw [List.getElem?_map] at e
      cases q : ds[i]? with
      | none => rw [q] at e; cases e
      | some d' =>
        rw [q] at e; cases e
        obtain ⟨v, hv, r⟩ := h.get q
        refine ⟨v, ?_, r.wider fun a z => ⟨.inl z, no a⟩⟩
        unfold L2.start
        rw [List.getElem?_append_left (by rw [List.length_map, h.length]; simpa using hi), List.getElem?_map, hv]
        rfl
    · rw [List.getElem?_replicate] at e
      split at e <;> cases e
  · unfold startS at e
    rw [List.getElem?_append] at e
    split at e
    · rw [List.getElem?_map] at e
      cases q : ds[i]? with
      | none => rw [q] at e; cases e
      | some d => rw [q] at e; cases e
    · rw [List.getElem?_replicate] at e
      split at e <;> cases e
  · unfold startS at e
    rw [List.getElem?_append] at e
    split at e
    · rw [List.getElem?_map] at e
      cases q : ds[i]? with
      | none => rw [q] at e; cases e
      | some d => rw [q] at e; cases e
    · rw [List.getElem?_replicate] at e
      split at e <;> cases e
  · unfold startS at e
    rw [List.getElem?_append] at e
    split at e
    · rw [List.getElem?_map] at e
      cases q : ds[i]? with
      | none => rw [q] at e; cases e
      | some d => rw [q] at e; cases e
    · rw [List.getElem?_replicate] at e
      split at e <;> cases e
theorem fn_data {x qual : Str} {st : Stmt} {f : Addr} {fd : FuncData} {N ps : List Str} {k n : Nat} {body : MS} (F : L2.Fun K x qual st f fd) (Sc : FnScope N ps (defScope st)) (hn : ps.length = n) (hN : n ≤ N.length)
    (hb : ∀ (cdv : Value) (A : Around) (outer : List Env) (s : Shared) (H : Hp) (E : XK), Room k (A.deeper (PyProof.Rows.envOfC qual (defScope st) s.heap.objs.size f cdv)) →
      XSs K C E (cxOf CX0 P w K mg base N qual (defScope st) f cdv A outer s H E).nox (defBody st) body) :
    FnOk P w K mg base CX0 (k + 1) f fd ps (spD K C n (mFn N.length body)) := by
  refine F.ok Sc (fun vs H Q E ⟨B, ds, h1, h2, _, _⟩ => by rw [h2.length, h1, hn]) (fun cdv A outer s H vs Q E hr ⟨B, ds, h1, h2, ht, h3⟩ => ⟨_, hb cdv A outer s H E hr, ?_⟩)
  refine ⟨H, fun a => B a ∨ H a = none, startS N.length ds, rs_start h2 ht (by omega), ?_⟩
  unfold mFn at h3
  cases ho : body (startS N.length ds) with
  | nx s' => rw [ho] at h3; exact fun σ' H' r t => h3 H' r.ex
  | rt d => rw [ho] at h3; exact fun v H' e r => h3 v H' e r
  | rtl es => rw [ho] at h3; exact fun p xs H' hp e h r => h3 p xs H' hp e h r
  | ex c fs => rw [ho] at h3; exact fun cls d H' e q => h3 cls d H' e q
  | bk s' => rw [ho] at h3; exact h3.elim
  | ct s' => rw [ho] at h3; exact h3.elim
  | no => rw [ho] at h3; exact h3.elim
end
end DD

namespace DD
variable [LTb]
open PySem L2
section
variable {K : Fg} {X : Cx} {C : XC} {E : XK} {H0 H H' H1 H2 : Hp} {G B : Addr → Prop} {σ : St} {s : S} {tg e a b : Expr} {m ma mb : M} {ml : ML} {pos p p2 : Pos} {es : List Expr}
/-! ### several targets -/
abbrev MGs := List D → S → Option S
def gsD (K : Fg) (ts : List Nat) (g : MGs) : TGs := fun vs σ H Q => ∃ H0 G s ds s', RS K H0 G σ H s ∧ RA K (Cl G σ s) H vs ds ∧ g ds s = some s' ∧ ∀ σ', RS K H0 G σ' H s' → Tr σ s H σ' s' H → But ts σ σ' → But ts s s' → Q σ' H
abbrev XGs (K : Fg) (X : Cx) (tgs : List Expr) (ts : List Nat) (g : MGs) := PGs X tgs (gsD K ts g)
def gsNil : MGs := fun ds s => match ds with
  | [] => some s
  | _ => none
def gsCons (g : MG) (r : MGs) : MGs := fun ds s => match ds with
  | d :: ds => (g d s).bind fun s1 => r ds s1
  | [] => none
theorem pgs_imp {tgs : List Expr} {t u : TGs} (h : PGs X tgs t) (i : ∀ v σ H Q, u v σ H Q → t v σ H Q) : PGs X tgs u := ⟨fun pins s σ H v w Q I r q => h.run pins s σ H v w Q I r (i v σ H Q q)⟩
theorem gs_nil : XGs K X [] [] gsNil := pgs_imp pgs_nil fun vs σ H Q ⟨H0, G, s, ds, s', r, rv, e, q⟩ => by
  unfold gsNil at e
  split at e
  · cases e
    cases rv
    exact ⟨rfl, q σ r (Tr.refl _ _ _) (But.refl _ _) (But.refl _ _)⟩
  · cases e
theorem gs_cons {ts us : List Nat} {g : MG} {r : MGs} (h1 : XG K X e ts g) (h2 : XGs K X es us r) (hs : (assignEach (e :: es) X.env).map (·.2) = assign e X.env :: (assignEach es X.env).map (·.2) := by rfl) : XGs K X (e :: es) (ts ++ us) (gsCons g r) :=
  pgs_imp (pgs_cons h1 h2 hs) fun vs σ H Q ⟨H0, G, s, ds, s', rs, rv, e, q⟩ => by
  unfold gsCons at e
  split at e
  · obtain ⟨s1, e1, e2⟩ := some_bind e
    cases rv with
    | cons r1 r2 =>
      refine ⟨_, _, rfl, H0, G, s, _, s1, rs, r1, e1, fun σ1 rs1 t1 b1 c1 => ⟨H0, G, s1, _, s', rs1, ?_, e2, fun σ2 rs2 t2 b2 c2 => q σ2 rs2 (t1.trans t2) (b1.trans b2) (c1.trans c2)⟩⟩
      exact (RA.there r2).wider fun a ⟨⟨g, n⟩, o, hH, m⟩ => ⟨g, (t1 a o hH n m).2⟩
  · cases e
/-- (a, b, ..) = a list or a tuple -/
def gSeq (n : Nat) (g : MGs) : MG := fun d s => (items d).bind fun ds => if ds.length = n then g ds s else none
theorem g_seq {ts : List Nat} {k n : Nat} {g : MGs} (hK : X.K = K) (hc : X.calm = true) (h : XGs K X es ts g) (hn : (assignEach es X.env).length = n := by rfl) (hst : (assignEach es X.env).findIdx? (·.1) = none := by rfl) : XG K X (.Tuple es k pos) ts (gSeq n g) := by
  subst hK
  refine ⟨fun pins s σ H v u Q I r ⟨H0, G, sd, d, s', rs, rv, e0, q⟩ => ?_⟩
  obtain ⟨ds, ed, e1⟩ := some_bind e0
  obtain ⟨hl, e2⟩ := if_some e1
  unfold items at ed
  split at ed
  · cases ed
    cases rv with
    | lst hr ha =>
      exact (pg_unl hc h hn hst).run pins s σ H _ u Q I r ⟨_, _, rfl, hr.sql, ha.length.trans hl, H0, G, sd, _, s', rs, ha, e2, q⟩
  · cases ed
    cases rv with
    | tup hr ha =>
      exact (pg_tup hc h hn hst).run pins s σ H _ u Q I r ⟨_, _, rfl, hr.sqt, ha.length.trans hl, H0, G, sd, _, s', rs, ha, e2, q⟩
  · cases ed

/-! ### t.index(x), xs.index(x) -/
def idxOf (d : D) : List D → Option Nat
  | [] => none
  | z :: zs => if PyData.eqv z d = true then some 0 else (idxOf d zs).map (· + 1)
theorem idxOf_some {d : D} : ∀ {ds : List D} {j : Nat}, idxOf d ds = some j → ∃ z, ds[j]? = some z ∧ PyData.eqv z d = true ∧ ∀ (i : Nat) z', i < j → ds[i]? = some z' → PyData.eqv z' d = false
  | [], _, h => by cases h
  | z :: zs, j, h => by
    unfold idxOf at h
    by_cases c : PyData.eqv z d = true
    · rw [if_pos c] at h; cases h
      exact ⟨z, rfl, c, fun i z' hi => absurd hi (Nat.not_lt_zero _)⟩
    · rw [if_neg c] at h
      obtain ⟨i, hi, rfl⟩ := Option.map_eq_some_iff.mp h
      obtain ⟨z', h1, h2, h3⟩ := idxOf_some hi
      refine ⟨z', h1, h2, fun k z'' hk e => ?_⟩
      cases k with
      | zero =>
        have : z = z'' := by simpa using e
        subst this
        simpa using c
      | succ k => exact h3 k z'' (by omega) (by simpa using e)
def fIndex : D → D → Option D := fun c d => match c with
  | .tuple ds => if min (PyData.depthAll ds) d.depth ≤ 60 ∧ plainD.go ds = true ∧ plainD d = true then (idxOf d ds).map fun j => .int (j : Nat) else none
  | _ => none
def rTix (K : Fg) : V → List V → Hp → VK → Prop := fun x xs H Q => ∃ (p : Addr) (ys : List V) (y : V) (ds : List D) (d : D) (j : Nat), x = .ref p ∧ xs = [y] ∧ SqT K H p ys ∧ DpAll K H ys ds ∧ Dp K H y d ∧ PyData.canLayAll0 ds = true ∧ d.canLay0 = true ∧ min (PyData.depthAll ds) d.depth ≤ 60 ∧ idxOf d ds = some j ∧ Q (.int (j : Nat)) H
theorem mt_tix {k : Nat} (hr : Room k X.A) : MtR X "tuple.index" (rTix X.K) := by
  intro pins s σ H x xs v us Q I rx rxs h
  obtain ⟨p, ys, y, ds, d, j, rfl, rfl, hq, ha, hy, l1, l2, hm, hj, q⟩ := h
  obtain ⟨z, hz, hzd, hno⟩ := idxOf_some hj
  cases rx
  obtain ⟨u, rfl, ru⟩ := vals1 rxs
  obtain ⟨bs, rd⟩ := Dp.reads I d y u hy ru
  obtain ⟨its, rv, ⟨ob, ho, hc, n, hdt⟩, _⟩ := I.tuple hq
  obtain ⟨cls, dd, dt, sl⟩ := ob
  simp only at hc hdt
  subst hc
  subst hdt
  obtain ⟨as, ra⟩ := Dp.readsAll I ds _ its ha rv
  have eqs := SeqAt.readsAll_map ds its as l1 ra
  have at_ : ∀ (i : Nat) (hi : i < its.toArray.size), ds[i]? = some (SeqAt.readOf s.heap its.toArray[i]) := fun i hi => by
    have hi' : i < its.length := by simpa using hi
    rw [← eqs, List.getElem?_map, List.getElem?_eq_getElem hi']
    simp
  have hsz : j < its.toArray.size := by
    have h1 := (List.getElem?_eq_some_iff.mp hz).1
    rw [← eqs] at h1
    simpa using h1
  have hroom : X.A.units + 1 + min (PyData.depthAll ds) d.depth < cLine := by have := hr.units; omega
  refine call_meets PySem.F.slot_tuple_index ⟨_, ho, rfl⟩ PySem.F.entry_tuple_index (PySem.F.args_tuple_index_2 _ _)
    (TI.tuple_indexAt p its.toArray n dd sl u (fun w => PyData.eqv (SeqAt.readOf s.heap w) d) j hsz ?_ ?_)
    ⟨ho, SeqAt.items_eqAt (vs := its.toArray) (show ReadsAll s.heap its.toArray.toList ds as from ra) rd l1 l2 hroom, ⟨.int (j : Nat), H, I.tok _, ⟨_, rfl⟩, q⟩⟩
  · have e := at_ j hsz
    rw [hz] at e
    show PyData.eqv (SeqAt.readOf s.heap its.toArray[j]) d = true
    rw [← Option.some.inj e]; exact hzd
  · intro i hi hij
    exact hno i _ hij (at_ i hi)
/-- t.m(e), t a tuple -/
def tTM (K : Fg) (r : V → List V → Hp → VK → Prop) (to : TE) (te : TE) : TE := fun σ H Q => to σ H fun x H1 => (∃ p xs, x = .ref p ∧ TupX K H1 p xs) ∧ te σ H1 fun y H2 => r x [y] H2 Q
theorem tupx_obj {pins : List (Addr × Obj)} {σ : St} {s : Shared} {p : Addr} {xs : List V} (I : Inv X pins σ H s) (h : TupX X.K H p xs) : ∃ ob : Obj, s.heap.get? p = some ob ∧ ob.cls = .type "tuple" ∧ ob.dict = none := by
  rcases h with ⟨ob, h, hc, hd⟩ | ⟨ob, its, n, hk, hc, hd, _⟩
  · exact ⟨ob, (I.hok p _ h).1, hc, hd⟩
  · exact ⟨ob, I.kIn p ob hk, hc, hd⟩
theorem pe_tm {o : Expr} {name : Str} {id : String} {apos cpos : Pos} {r : V → List V → Hp → VK → Prop} {to te : TE} (pa : PlainAttrs "tuple") (slot : Slot "tuple" name id) (hty : typeOf (.builtin id) = pure (.type "method_descriptor")) (hm : MtR X id r) (ho : PE X o to) (ha : PE X e te)
    (hb : attributeBase o name X.env (eval o X.env) = eval o X.env := by rfl)
    (hf : ((backTo cpos (starEach [e] X.env)).all (fun x => !x.1) && (backToKw cpos (keywordEach [] X.env)).all (fun x => x.1.isSome) && decide ([e].length + ([] : List Keyword).length + (if ([] : List Keyword).isEmpty then 0 else 1) < 30)) = true := by rfl)
    (hl : (apos.endLine == cpos.line) = true := by rfl) (hs : starEach [e] X.env = (false, eval e X.env) :: starEach [] X.env := by rfl) (hp : (backTo cpos (starEach [] X.env)).any (·.1) = false := by rfl) :
    PE X (.Call (.Attribute o name apos) [e] [] cpos) (tTM X.K r to te) := ⟨fun pins s σ H Q I h => by
  refine wpAny_Call_method_late hb hf hl rfl (thn (ho.run pins s σ H _ I h) fun v s1 hh => ?_)
  obtain ⟨x, H1, I1, r1, ⟨p, xs, rfl, ht⟩, q1⟩ := hh
  cases r1
  obtain ⟨ob, g1, g2, g3⟩ := tupx_obj I1 ht
  refine ⟨"tuple", id, pa, slot, hty, ⟨ob, g1, g2⟩, fun b hb' => by cases hb'; exact ⟨ob, g1, g3⟩, ?_⟩
  have run := (pa_cons ha pa_nil hs).run cpos pins s1 σ H1 (fun ys H2 => r (.ref p) ys H2 Q) I1 q1
  rw [hs] at run ⊢
  refine Calls.callWith_builtin (id := id) (show (false || (backTo cpos (starEach [] X.env)).any (·.1)) = false by rw [hp]; rfl) (Calls.evalArgs_plain (thn run fun us s2 w => ?_))
  obtain ⟨vs, H2, I2, r2, q2⟩ := w
  exact hm pins s2 σ H2 (.ref p) vs (.ref p) us Q I2 rfl r2 q2⟩
theorem x_tindex {k : Nat} {o : Expr} {p2 : Pos} (hK : X.K = K) (hr : Room k X.A) (ho : XB K X o ma) (ha : XB K X e mb) (h : PE X (.Call (.Attribute o "index" p) [e] [] p2) (tTM X.K (rTix X.K) (tBo K ma) (tBo K mb))) :
    XE K X (.Call (.Attribute o "index" p) [e] [] p2) (m2 fIndex ma mb) := pe_imp h fun σ H Q ⟨H0, G, s, d, rs, e, q⟩ => by
  subst hK
  obtain ⟨x, ex, e⟩ := some_bind e
  obtain ⟨y, ey, e⟩ := some_bind e
  unfold fIndex at e
  split at e
  · obtain ⟨⟨hm, p1, p2⟩, e⟩ := if_some e
    obtain ⟨j, hj, rfl⟩ := Option.map_eq_some_iff.mp e
    refine ⟨H0, G, s, _, rs, ex, fun v H1 e1 rv => ?_⟩
    obtain ⟨p, xs, rfl, hr', ra⟩ := RB.itemsT rv
    refine ⟨⟨p, xs, rfl, hr'⟩, H0, G, s, y, rs.mono e1, ey, fun u H2 e2 ru => ?_⟩
    have ru' := RB.any (rs.mono e1) e2 ru
    exact ⟨p, xs, u, _, y, j, rfl, rfl, (e2.sqt hr').sqt, RA.dp _ _ p1 (ra.ex e2), R.dp _ _ p2 ru', RA.lay _ _ p1 ra, R.lay _ _ p2 ru', hm, hj, q _ H2 (e1.trans e2) (.int _)⟩
  · cases e

/-! ### sorted(xs) -/
def alikeAllB (ds : List D) : Bool := ds.all fun d => ds.all fun d' => W.alike d d'
def sortB (ds : List D) : Bool := (ds.all fun d => match d with | .tuple (_ :: _) => true | _ => false) || (ds.all fun d => match d with | .none => false | .tuple _ => false | _ => true)
def sortD (ds : List D) : List D := ds.mergeSort (W.dataLe false id)
def fSorted (ds : List D) : Option (List D) := if alikeAllB ds = true ∧ sortB ds = true ∧ PyData.depthAll ds ≤ 60 ∧ ds.length ≤ 100000 ∧ plainD.go ds = true then some (sortD ds) else none
def mSorted (m : M) : ML := fun s => (m s).bind fun d => (fList d).bind fSorted
theorem alikeAllB_of {ds : List D} (h : alikeAllB ds = true) : W.AllAlike (ds.map id) := fun d hd d' hd' => by
  rw [List.map_id] at hd hd'
  exact List.all_eq_true.mp (List.all_eq_true.mp h d hd) d' hd'
theorem sortB_of {ds : List D} (h : sortB ds = true) : W.Sortable (ds.map id) := by
  rw [List.map_id]
  unfold sortB at h
  rw [Bool.or_eq_true] at h
  rcases h with h | h
  · refine .inl fun d hd => ?_
    have := List.all_eq_true.mp h d hd
    split at this
    · exact ⟨_, _, rfl⟩
    · cases this
  · refine .inr fun d hd => ?_
    have := List.all_eq_true.mp h d hd
    split at this
    · cases this
    · cases this
    · rename_i n1 n2
      exact ⟨n1, n2⟩
theorem depth_le {ds : List D} {d : D} (h : d ∈ ds) : d.depth ≤ PyData.depthAll ds := by
  induction ds with
  | nil => cases h
  | cons x xs ih =>
    simp only [PyData.depthAll]
    rcases List.mem_cons.mp h with e | e
    · subst e; exact Nat.le_max_left _ _
    · exact Nat.le_trans (ih e) (Nat.le_max_right _ _)
theorem each_of {P : V → D → Prop} : ∀ {vs : List V} {us : List Value} {ds : List D}, plainD.go ds = true → Vals vs us → RA K B H vs ds → W.EachIs (fun u d => ∃ x, RelV x u ∧ R K B H x d ∧ plainD d = true) us ds
  | _, _, _, _, .nil, h => by cases h; exact .nil
  | _, _, _, p, .cons r t, h => by
    cases h with
    | cons h1 h2 =>
      simp only [plainD.go, Bool.and_eq_true] at p
      exact .cons ⟨_, r, h1, p.1⟩ (each_of (P := P) p.2 t h2)
theorem of_each : ∀ {us : List Value} {ds : List D}, W.EachIs (fun u d => ∃ x, RelV x u ∧ R K B H x d ∧ plainD d = true) us ds → ∃ vs, Vals vs us ∧ RA K B H vs ds
  | _, _, .nil => ⟨[], .nil, .nil⟩
  | _, _, .cons h t => by
    obtain ⟨x, h1, h2, _⟩ := h
    obtain ⟨vs, k1, k2⟩ := of_each t
    exact ⟨x :: vs, .cons h1 k1, .cons h2 k2⟩
def rSortedD (K : Fg) : List V → Hp → VK → Prop := fun vs H Q => ∃ (B : Addr → Prop) (a : Addr) (xs : List V) (ds : List D), vs = [.ref a] ∧ SqL K H a xs ∧ RA K B H xs ds ∧ alikeAllB ds = true ∧ sortB ds = true ∧ PyData.depthAll ds ≤ 60 ∧ plainD.go ds = true ∧
  ∀ ys p, H p = none → RA K B H ys (sortD ds) → Q (.ref p) (upd H p (.lst ys))
theorem call_sortedD {k : Nat} (hr : Room k X.A) : CallR X (.builtin "sorted") (rSortedD X.K) := fun pins s σ H vs us Q I r h => by
  obtain ⟨B, a, xs, ds, rfl, hs, ra, ha, hb, hd, hp, q⟩ := h
  obtain ⟨its, rv, hl, hz⟩ := I.list hs
  rw [Vals.ref1 r]
  have e := each_of (P := fun _ _ => True) hp rv ra
  refine W.sorted_data (enc := id) hl.isList e (e.mono fun u d ⟨x, h1, h2, h3⟩ => Dp.reads I d x u (R.dp _ _ h3 h2) h1) (alikeAllB_of ha) (sortB_of hb) (by rw [← ra.length]; exact hz) (fun d hm => by
    have h1 := depth_le hm
    have h2 := hr.units
    show X.A.units + 2 + d.depth < cLine
    omega) fun out hout eo => ?_
  obtain ⟨ys, k1, k2⟩ := of_each eo
  obtain ⟨ep, he⟩ := PyProof.Rows.sortedAll_at s.heap its out.toArray
  have hlen : ys.length ≤ sizeLine := by
    rw [k1.length, hout, ← ra.length]; exact hz
  exact ⟨.ref _, upd H (s.heap.objs.size + 1) (.lst ys), I.laid (t' := s.toks) (fun _ _ => PyProof.Rows.sortedAll_old) (Nat.le_succ _) ⟨hlen, out, ep, k1, he⟩, rfl, q ys _ (I.hok.fresh (Nat.le_succ _)) k2⟩
theorem l_sorted {k : Nat} (hK : X.K = K) (hr : Room k X.A) (hg : Gl X "sorted") (hm : X.mg "sorted" = none) (ha : XB K X e m) (he : starEach [e] X.env = (false, eval e X.env) :: starEach [] X.env := by rfl) (hpl : (backTo pos (starEach [] X.env)).any (·.1) = false := by rfl) :
    XL K X (.Call (.Name "sorted" p) [e] [] pos) (mSorted m) := by
  subst hK
  refine pe_imp (pe_callB (call_sortedD hr) hg hm (by decide +kernel) (pa_cons ha pa_nil he) (by decide) (by decide) he hpl) fun σ H Q ⟨H0, G, s, d, rs, e, q⟩ => ?_
  obtain ⟨x, ex, e⟩ := some_bind e
  obtain ⟨ds, ed, e⟩ := some_bind e
  obtain ⟨⟨h1, h2, h3, h4, h5⟩, e⟩ := if_some e
  cases e
  have := fList_some ed
  subst this
  refine ⟨H0, G, s, _, rs, ex, fun v H1 e1 rv => ?_⟩
  obtain ⟨p, xs, rfl, hr', ra⟩ := RB.items rs e1 rv
  exact ⟨_, p, xs, ds, rfl, hr', ra, h1, h2, h3, h5, fun ys o ho ry => q o ys _ (e1.back ho) (e1.trans (Ex.new ho)) upd_same ((ry.free ho).ex (Ex.new ho))⟩
end
end DD

namespace DD
variable [LTb]
open PySem L2
section
variable {K : Fg} {X : Cx} {C : XC} {e : Expr} {ml : ML} {pos p : Pos} {es : List Expr} {k n : Nat} {x : Str} {f : MF}
theorem x_callB {k' : Nat} (c : Cal X.prog X.w K X.mg X.base CX0 C k x n f) (hr : Room k' X.A) (hk : k ≤ k') (hK : X.K = K) (hg : Gl X x) (ha : XAb K X (e :: es) ml) (hdb : (x == ("__debug__" : Str)) = false := by decide)
    (he : starEach (e :: es) X.env = (false, eval e X.env) :: starEach es X.env := by rfl) (hpl : (backTo pos (starEach es X.env)).any (·.1) = false := by rfl) : XE K X (.Call (.Name x p) (e :: es) [] pos) (mCallB n f ml) := by
  subst hK
  exact pe_imp (call_pe (E := E0) c (hr.mono hk) hg pass0 ha hdb he hpl) fun _ _ _ h => rdCallB h
theorem x_callC {k' : Nat} (c : Cal X.prog X.w K X.mg X.base CX0 C k x n f) (hr : Room k' X.A) (hk : k ≤ k') (hK : X.K = K) (hg : Gl X x) (ha : XA K X (e :: es) ml) (hdb : (x == ("__debug__" : Str)) = false := by decide)
    (he : starEach (e :: es) X.env = (false, eval e X.env) :: starEach es X.env := by rfl) (hpl : (backTo pos (starEach es X.env)).any (·.1) = false := by rfl) : XE K X (.Call (.Name x p) (e :: es) [] pos) (mCall n f ml) := by
  subst hK
  exact pe_imp (call_pe (E := E0) c (hr.mono hk) hg pass0 ha hdb he hpl) fun _ _ _ h => rdCall h
theorem l_callB {k' : Nat} (c : Cal X.prog X.w K X.mg X.base CX0 C k x n f) (hr : Room k' X.A) (hk : k ≤ k') (hK : X.K = K) (hg : Gl X x) (ha : XAb K X (e :: es) ml) (hdb : (x == ("__debug__" : Str)) = false := by decide)
    (he : starEach (e :: es) X.env = (false, eval e X.env) :: starEach es X.env := by rfl) (hpl : (backTo pos (starEach es X.env)).any (·.1) = false := by rfl) : XL K X (.Call (.Name x p) (e :: es) [] pos) (mCallBL n f ml) := by
  subst hK
  exact pe_imp (call_pe (E := E0) c (hr.mono hk) hg pass0 ha hdb he hpl) fun _ _ _ h => rdCallBL h
theorem l_callC {k' : Nat} (c : Cal X.prog X.w K X.mg X.base CX0 C k x n f) (hr : Room k' X.A) (hk : k ≤ k') (hK : X.K = K) (hg : Gl X x) (ha : XA K X (e :: es) ml) (hdb : (x == ("__debug__" : Str)) = false := by decide)
    (he : starEach (e :: es) X.env = (false, eval e X.env) :: starEach es X.env := by rfl) (hpl : (backTo pos (starEach es X.env)).any (·.1) = false := by rfl) : XL K X (.Call (.Name x p) (e :: es) [] pos) (mCallL n f ml) := by
  subst hK
  exact pe_imp (call_pe (E := E0) c (hr.mono hk) hg pass0 ha hdb he hpl) fun _ _ _ h => rdCallL h
/-- exceptions: none -/
def C0 : XC := fun _ _ _ _ _ => False
/-- xs.append(e), xs.reverse() -/
theorem s_appN {i : Nat} {o : Expr} {m : M} {E : XK} {p1 p2 p3 : Pos} (hK : X.K = K) (hx : PE X o (tVar i)) (he : XE K X e m) (hs : starEach [e] X.env = (false, eval e X.env) :: starEach [] X.env := by rfl)
    (hb : attributeBase o "append" X.env (eval o X.env) = eval o X.env := by rfl)
    (hf : ((backTo p2 (starEach [e] X.env)).all (fun x => !x.1) && (backToKw p2 (keywordEach [] X.env)).all (fun x => x.1.isSome) && decide ([e].length + ([] : List Keyword).length + (if ([] : List Keyword).isEmpty then 0 else 1) < 30)) = true := by rfl)
    (hl : (p1.endLine == p2.line) = true := by rfl) (hp : (backTo p2 (starEach [] X.env)).any (·.1) = false := by rfl)
    (hw : swapsWith (.Call (.Attribute o "append" p1) [e] [] p2) none p3.line X.env = pure false := by rfl) :
    XS K C E X (.Expr (.Call (.Attribute o "append" p1) [e] [] p2) p3) (mApp i m) := by
  have ht := ps_expr (pos := p3) (pe_bm PySem.F.plainAttrs_list PySem.F.slot_list_append PySem.F.type_list_append mt_append hx (pa_cons he pa_nil hs) hb hf hl hs hp) hw
  exact s_app hK hx he hw ht
theorem s_revN {i : Nat} {o : Expr} {E : XK} {p1 p2 p3 : Pos} (hK : X.K = K) (hx : PE X o (tVar i))
    (hb : attributeBase o "reverse" X.env (eval o X.env) = eval o X.env := by rfl) (hl : (p1.endLine == p2.line) = true := by rfl)
    (hw : swapsWith (.Call (.Attribute o "reverse" p1) [] [] p2) none p3.line X.env = pure false := by rfl) :
    XS K C E X (.Expr (.Call (.Attribute o "reverse" p1) [] [] p2) p3) (mRevS i) :=
  s_reverse hK (ps_expr (pos := p3) (pe_bm0 PySem.F.plainAttrs_list PySem.F.slot_list_reverse PySem.F.type_list_reverse mt_reverse hx hb hl) hw)
end
/-- a def as its callers see it -/
theorem cal_of {P : Program} {w : World} {K : Fg} {mg : Str → Option Value} {base : Heap} {CX : CXT} {C : XC} {k n : Nat} {x : Str} {m : MF} {f : Addr} {fd : FuncData} {ps : List Str} (F : FnOk P w K mg base CX k f fd ps (spD K C n m)) (hm : mg x = some (.ref f)) (hk : PySem.W.keepIn K (.ref f) = true) (hb : Binds K fd ps []) : Cal P w K mg base CX C k x n m := ⟨f, fd, ps, F, hm, hk, hb⟩
/-- the law's promise over data: it gives True at every script -/
theorem law_sp {K : Fg} {C : XC} {m : MF} {H : Hp} {a : Addr} {ns : List Int} (h : m [.list (ns.map .int)] = .rt (.bool true)) (hs : SqL K H a (ns.map V.int)) (ht : TabOk H) : spD K C 1 m [.ref a] H (fun v _ => v = .bl true) fun _ _ _ => False := by
  have nums : ∀ ms : List Int, RA K (fun _ => True) H (ms.map V.int) (ms.map .int) := fun ms => by
    induction ms with
    | nil => exact .nil
    | cons m ms ih => exact .cons (.int m) ih
  refine ⟨fun _ => True, [.list (ns.map .int)], rfl, .cons (.lst (hs.elim (fun q => .inl ⟨trivial, q⟩) .inr) (nums ns)) .nil, ht, ?_⟩
  rw [h]
  intro v H' e r
  cases r
  rfl
end DD

namespace DD
open PySem L2
/-- the law's promise, without a word on data: True at every script -/
def spL (K : Fg) (n : Nat) : Sp := fun vs H Q _ => ∃ (a : Addr) (ns : List Int), vs = [.ref a] ∧ ns.length ≤ n ∧ SqL K H a (ns.map V.int) ∧ ∀ H', Q (.bl true) H'
variable [LTb]
theorem tabOk_nil (h1 : LTb.T = []) (h2 : LTb.G = []) (H : Hp) : TabOk H := by
  unfold TabOk
  rw [h1, h2]
  exact ⟨fun x hx => (by cases hx), fun P hP => (by cases hP)⟩
theorem law_spL {K : Fg} {C : XC} {m : MF} {n : Nat} (h1 : LTb.T = []) (h2 : LTb.G = []) (h : ∀ ns : List Int, ns.length ≤ n → m [.list (ns.map .int)] = .rt (.bool true)) (vs : List V) (H : Hp) (Q : VK) (E : XK) (q : spL K n vs H Q E) : spD K C 1 m vs H Q E := by
  obtain ⟨a, ns, rfl, hl, hs, q⟩ := q
  have nums : ∀ ms : List Int, RA K (fun _ => True) H (ms.map V.int) (ms.map .int) := fun ms => by
    induction ms with
    | nil => exact .nil
    | cons m ms ih => exact .cons (.int m) ih
  refine ⟨fun _ => True, [.list (ns.map .int)], rfl, .cons (.lst (hs.elim (fun q => .inl ⟨trivial, q⟩) .inr) (nums ns)) .nil, tabOk_nil h1 h2 H, ?_⟩
  rw [h ns hl]
  intro v H' e r
  cases r
  exact q H'
/-- the same, the tables of code objects empty as yet -/
def spLT (K : Fg) (n : Nat) (Ps : List Addr) : Sp := fun vs H Q _ => ∃ (a : Addr) (ns : List Int), vs = [.ref a] ∧ ns.length ≤ n ∧ SqL K H a (ns.map V.int) ∧ (∀ P ∈ Ps, H P = some (.tbl #[])) ∧ ∀ H', Q (.bl true) H'
theorem law_spLT {K : Fg} {C : XC} {m : MF} {n : Nat} {Ps : List Addr} (h1 : ∀ p ∈ LTb.T, p.1 ∈ Ps) (h2 : LTb.G = []) (h : ∀ ns : List Int, ns.length ≤ n → m [.list (ns.map .int)] = .rt (.bool true)) (vs : List V) (H : Hp) (Q : VK) (E : XK) (q : spLT K n Ps vs H Q E) : spD K C 1 m vs H Q E := by
  obtain ⟨a, ns, rfl, hl, hs, ht, q⟩ := q
  have nums : ∀ ms : List Int, RA K (fun _ => True) H (ms.map V.int) (ms.map .int) := fun ms => by
    induction ms with
    | nil => exact .nil
    | cons m ms ih => exact .cons (.int m) ih
  have hT : TabOk H := by
    unfold TabOk
    rw [h2]
    exact ⟨fun x hx => LamX.TabS.nil (ht _ (h1 x hx)), fun P hP => (by cases hP)⟩
  refine ⟨fun _ => True, [.list (ns.map .int)], rfl, .cons (.lst (hs.elim (fun q => .inl ⟨trivial, q⟩) .inr) (nums ns)) .nil, hT, ?_⟩
  rw [h ns hl]
  intro v H' e r
  cases r
  exact q H'
end DD

/-! # Sets over data -/
namespace DD
variable [LTb]
open PySem L2
def intsD : List D → Option (List Int)
  | [] => some []
  | .int i :: r => (intsD r).map (i :: ·)
  | _ => none
def keyD : D → Option (List Int)
  | .tuple ds => intsD ds
  | _ => none
def keysD : List D → Option (List (List Int))
  | [] => some []
  | d :: r => (keyD d).bind fun k => (keysD r).map (k :: ·)
theorem opt_map {α β : Type} {x : Option α} {f : α → β} {y : β} (h : x.map f = some y) : ∃ a, x = some a ∧ y = f a := by
  cases x with
  | none => cases h
  | some a => cases h; exact ⟨a, rfl, rfl⟩
section
variable {K : Fg} {X : Cx} {C : XC} {E : XK} {B : Addr → Prop} {H H' H0 : Hp} {G : Addr → Prop} {σ : St} {s : S}
theorem RA.intsD : ∀ {ds : List D} {vs : List V} {k : List Int}, RA K B H vs ds → intsD ds = some k → vs = k.map V.int
  | [], _, k, .nil, e => by cases e; rfl
  | d :: ds, _, k, .cons h1 h2, e => by
    cases d with
    | int i =>
      obtain ⟨k2, e2, rfl⟩ := opt_map e
      cases h1
      rw [RA.intsD h2 e2]; rfl
    | _ => cases e
theorem R.keyD {d : D} {v : V} {k : List Int} (h : R K B H v d) (e : keyD d = some k) : ∃ a, v = .ref a ∧ TupX K H a (k.map V.int) := by
  cases d with
  | tuple ds =>
    cases h with
    | tup hr ha =>
      rw [RA.intsD ha e] at hr
      exact ⟨_, rfl, hr⟩
  | _ => cases e
theorem RA.keysD : ∀ {ds : List D} {vs : List V} {ks : List (List Int)}, RA K B H vs ds → keysD ds = some ks → ∃ L : List (Addr × List Int), vs = L.map (fun p => V.ref p.1) ∧ (∀ p ∈ L, TupX K H p.1 (p.2.map V.int)) ∧ L.map (·.2) = ks
  | [], _, ks, .nil, e => by cases e; exact ⟨[], rfl, fun p hp => (by cases hp), rfl⟩
  | d :: ds, _, ks, .cons h1 h2, e => by
    obtain ⟨k, e1, e2⟩ := some_bind e
    obtain ⟨ks2, e3, rfl⟩ := opt_map e2
    obtain ⟨a, rfl, ht⟩ := h1.keyD e1
    obtain ⟨L, rfl, hL, rfl⟩ := RA.keysD h2 e3
    refine ⟨(a, k) :: L, rfl, fun p hp => ?_, rfl⟩
    rcases List.mem_cons.mp hp with rfl | hp
    · exact ht
    · exact hL p hp
def fKeys (d : D) : Option (List (List Int)) := (items d).bind fun ds => if ds.length < 64 then keysD ds else none
theorem Tr.setS {v : Option V} {ks : List (List Int)} (i : Nat) : Tr σ s H (σ.set i v) (s.set i (some (.st ks))) H := fun a o h n _ => ⟨h, fun ⟨j, ds, h1, h2⟩ => n (by
  rcases get_set h1 with ⟨_, e, _⟩ | ⟨hj, h1⟩
  · cases e
  · rcases get_set h2 with ⟨e, _⟩ | ⟨_, h2⟩
    · exact (hj e).elim
    · exact ⟨j, ds, h1, h2⟩)⟩
abbrev MK := S → Option (List (List Int))
def tSt (K : Fg) (m : MK) : TE := fun σ H Q => ∃ H0 G s ks, RS K H0 G σ H s ∧ m s = some ks ∧ ∀ v H', Ex H H' → HasSet K H' v ks → Q v H'
def mSet (m : M) : MK := fun s => (m s).bind fKeys
def mAsgSt (i : Nat) (m : MK) : MS := fun s => match m s with
  | some ks => .nx (s.set i (some (.st ks)))
  | none => .no
theorem s_asgSt {i : Nat} {m : MK} {st : Stmt} (h : PS X st (tAsg (tSt K m) (gName i))) : XS K C E X st (mAsgSt i m) := ps_imp h fun Dn σ H ⟨H0, G, s, r, q⟩ => by
  unfold mAsgSt at q
  cases hm : m s with
  | none => rw [hm] at q; exact q.elim
  | some ks =>
    rw [hm] at q
    exact ⟨H0, G, s, ks, r, hm, fun v H1 e1 hv => q _ H1 ((r.mono e1).setS i hv) ((Tr.setS (H := H1) i).ex e1)⟩
theorem keysD_len : ∀ {ds : List D} {ks : List (List Int)}, keysD ds = some ks → ks.length = ds.length
  | [], _, e => by cases e; rfl
  | d :: ds, ks, e => by
    obtain ⟨k, e1, e2⟩ := some_bind e
    obtain ⟨ks2, e3, rfl⟩ := opt_map e2
    simp [keysD_len e3]
/-- set(e) -/
theorem x_set {k : Nat} {m : M} {e : Expr} {p pos : Pos} (hK : X.K = K) (hr : Room k X.A) (hc : X.calm = true) (hg : Gl X "set") (hm : X.mg "set" = none) (ha : XB K X e m)
    (he : starEach [e] X.env = (false, eval e X.env) :: starEach [] X.env := by rfl) (hpl : (backTo pos (starEach [] X.env)).any (·.1) = false := by rfl) : PE X (.Call (.Name "set" p) [e] [] pos) (tSt K (mSet m)) := by
  subst hK
  refine pe_imp (pe_callTy (cr_setTup hc hr.units) hg hm (by decide +kernel) (pa_cons ha pa_nil he) (by decide) (by decide) he hpl) fun σ H Q ⟨H0, G, s, ks, r, hk, q⟩ => ?_
  obtain ⟨d, ed, ek1⟩ := some_bind hk
  obtain ⟨ds, ei, ek2⟩ := some_bind ek1
  obtain ⟨hl, ek3⟩ := if_some ek2
  refine ⟨H0, G, s, d, r, ed, fun v H1 e1 rv => ?_⟩
  have key : ∃ (l : Addr) (L : List (Addr × List Int)), v = .ref l ∧ (SqL X.K H1 l (L.map fun p => V.ref p.1) ∨ SqT X.K H1 l (L.map fun p => V.ref p.1)) ∧ (∀ p ∈ L, TupX X.K H1 p.1 (p.2.map V.int)) ∧ L.map (·.2) = ks := by
    unfold items at ei
    split at ei
    · cases ei
      obtain ⟨p, xs, rfl, hr', ra⟩ := RB.items r e1 rv
      obtain ⟨L, rfl, hL, hk⟩ := ra.keysD ek3
      exact ⟨p, L, rfl, .inl hr', hL, hk⟩
    · cases ei
      obtain ⟨p, xs, rfl, hr', ra⟩ := RB.itemsT rv
      obtain ⟨L, rfl, hL, hk⟩ := ra.keysD ek3
      exact ⟨p, L, rfl, .inr hr'.sqt, hL, hk⟩
    · cases ei
  obtain ⟨l, L, rfl, hs, hL, hks⟩ := key
  refine ⟨l, L, rfl, hs, fun p hp => (hL p hp).sqt, ?_, fun a L' ha' h1 h2 => ?_⟩
  · have e2 := congrArg List.length hks
    rw [List.length_map] at e2
    have e3 := keysD_len ek3
    omega
  · refine q _ _ (e1.trans (Ex.new ha')) ⟨a, L', rfl, upd_same, fun p hp => (Ex.new ha').sqt (hL p (h1 p hp)), fun k => ?_⟩
    rw [← hks]
    constructor
    · intro hk'
      obtain ⟨p, hp, rfl⟩ := List.mem_map.mp hk'
      exact List.mem_map.mpr ⟨p, h1 p hp, rfl⟩
    · intro hk'
      obtain ⟨p, hp, rfl⟩ := List.mem_map.mp hk'
      exact h2 p hp
def mInSt (m : M) (j : Nat) : M := fun s => (m s).bind fun d => (keyD d).bind fun k => match s[j]? with
  | some (some (.kd (.set ks))) => some (.bool (decide (k ∈ ks)))
  | _ => none
theorem x_inSt {j k : Nat} {m : M} {a b : Expr} {pos : Pos} (hK : X.K = K) (hr : Room k X.A) (ha : XB K X a m) (hb : PE X b (tVar j)) (hm : behindInMarks .In b = false := by rfl) : XE K X (.Compare a [.In] [b] pos) (mInSt m j) := by
  subst hK
  refine pe_imp (pe_cmpR (or_setIn hr.units) ha hb hm) fun σ H Q ⟨H0, G, s, d, r, e, q⟩ => ?_
  obtain ⟨d', ed, e⟩ := some_bind e
  obtain ⟨k', ek, e⟩ := some_bind e
  refine ⟨H0, G, s, d', r, ed, fun v H1 e1 rv => ?_⟩
  split at e
  · rename_i ks hj
    cases e
    obtain ⟨u, h1, a', L, rfl, h2, h3, h4⟩ := (r.mono e1).st j (.set ks) hj
    obtain ⟨p, rfl, hp⟩ := R.keyD (RB.any r e1 rv) ek
    refine ⟨_, h1, p, a', k', L, rfl, rfl, hp.sqt, h2, fun q hq => (h3 q hq).sqt, ?_⟩
    have : decide (k' ∈ L.map (·.2)) = decide (k' ∈ ks) := by rw [decide_eq_decide]; exact h4 k'
    simp only [Bool.false_eq_true, if_false]
    rw [this]
    exact q _ H1 e1 (.bl _)
  · cases e
theorem t_inSt {j k : Nat} {m : M} {a b : Expr} {pos : Pos} (hK : X.K = K) (hr : Room k X.A) (ha : XB K X a m) (hb : PE X b (tVar j)) (hm : behindInMarks .In b = false := by rfl) : XT K X (.Compare a [.In] [b] pos) (mT (mInSt m j)) := by
  subst hK
  refine pt_imp (pt_cmpR (or_setIn hr.units) ha hb hm) fun σ H Q h => ?_
  obtain ⟨H0, G, s, d, r, e, q⟩ := tT_tD h
  obtain ⟨d', ed, e⟩ := some_bind e
  obtain ⟨k', ek, e⟩ := some_bind e
  refine ⟨H0, G, s, d', r, ed, fun v H1 e1 rv => ?_⟩
  split at e
  · rename_i ks hj
    cases e
    obtain ⟨u, h1, a', L, rfl, h2, h3, h4⟩ := (r.mono e1).st j (.set ks) hj
    obtain ⟨p, rfl, hp⟩ := R.keyD (RB.any r e1 rv) ek
    refine ⟨_, h1, p, a', k', L, rfl, rfl, hp.sqt, h2, fun q hq => (h3 q hq).sqt, ?_⟩
    have : decide (k' ∈ L.map (·.2)) = decide (k' ∈ ks) := by rw [decide_eq_decide]; exact h4 k'
    simp only [Bool.false_eq_true, if_false]
    rw [this]
    exact q _ H1 e1 (.bl _)
  · cases e
end
@[simp] theorem e_asgSt {i : Nat} {m : MK} {s : S} : mAsgSt i m s = (m s).elim .no fun ks => .nx (s.set i (some (.st ks))) := by unfold mAsgSt; cases m s <;> rfl
@[simp] theorem e_set {m : M} {s : S} : mSet m s = (m s).bind fKeys := rfl
def stAt : Option (Option Sl) → Option (List (List Int))
  | some (some (.kd (.set ks))) => some ks
  | _ => none
@[simp] theorem stAt_1 {ks : List (List Int)} : stAt (some (some (.st ks))) = some ks := rfl
@[simp] theorem e_inSt {m : M} {j : Nat} {s : S} : mInSt m j s = (m s).bind fun d => (keyD d).bind fun k => (stAt s[j]?).map fun ks => .bool (decide (k ∈ ks)) := by
  unfold mInSt; generalize s[j]? = o
  rcases o with _ | _ | _ | _ | (_ | _) <;> rfl
end DD

/-! # An own exception whose __init__ says super().__init__(e) -/
namespace DD
open PySem L2 NdefX
/-- what the written part says of the class at C and of its __init__ at f (code object cda, cell cc) -/
structure SupF (prog : Program) (K : PySem.W.Frag) (mg : Str → Option Value) (f cda cc C : Addr) : Prop where
  fn : ∃ (o : Obj) (fd : FuncData) (ar : Arg), K.lookup f = some o ∧ o.data = .func fd ∧ (fd.params.posonlyargs ++ fd.params.args).head? = some ar ∧ ar.arg = "self"
  code : ∃ (o : Obj) (vs : Array Value) (file : Str) (tf : Tok), K.lookup cda = some o ∧ o.data = .fields vs ∧ vs[2]? = some (.str file tf) ∧ ((prog.main.file : Str) == file) = true
  cell : ∃ (o : Obj), K.lookup cc = some o ∧ o.data = .cell (some (.ref C))
  sub : PySem.W.mroIn K C (.ref C) = some true
  along : PySem.W.ks_superIn K C C "__init__" = some (some (.builtin "ValueError.__init__"))
  isV : PySem.W.subIn K (.ref C) (.type "ValueError") = some true
  clear : PySem.W.nsIn K PySem.cStatics "thirdparty.any" = some none
  oex : OexC K C
  noS : mg "super" = none
  top : (prog.main.scope.names.lookup ("super" : Str)).isSome = false
/-- how the body's names stand -/
structure SupE (X : Cx) (f cda cc : Addr) : Prop where
  fu : X.env.func = some f
  co : X.env.code = .ref cda
  su : X.env.kindOf ("super" : Str) = some .globalImplicit
  cl : X.env.kindOf ("__class__" : Str) = some .free
  ce : X.env.cells.lookup ("__class__" : Str) = some cc
  se : X.env.kindOf ("self" : Str) = some .local
  n0 : X.N[0]? = some ("self" : Str)
theorem self_at {X : Cx} {pins : List (Addr × Obj)} {σ : St} {H : Hp} {s : Shared} {a f cda cc : Addr} (I : Inv X pins σ H s) (S : SupE X f cda cc) (h0 : σ[0]? = some (some (.ref a))) :
    ∃ m, s.heap.Ns X.env.locals m ∧ m "self" = some (.ref a) := by
  obtain ⟨m, hn, hl⟩ := I.loc
  obtain ⟨u, ru, lk⟩ := hl 0 "self" (.ref a) S.n0 h0 (.inl (by simpa [Env.kindOf] using S.se))
  obtain rfl : u = Value.ref a := ru
  rcases lk with ⟨_, e⟩ | ⟨k, _⟩
  · exact ⟨m, hn, e⟩
  · rw [S.se] at k
    rcases k with k | k <;> cases k
theorem boot_super : bootBuiltins ("super" : Str) = some (.type "super") := by first | rfl | decide +kernel
section
variable {X : Cx} {pins : List (Addr × Obj)} {σ : St} {H : Hp} {s : Shared} {a f cda cc C : Addr} {e : Expr} {te : TE} {p0 p1 p2 pos : Pos} {body : List Stmt} {E : Value → Shared → Prop}
/-- the method-wrapper called -/
theorem call_mw {u : Addr} {us : List Value} {Q : Value → Shared → Prop} (T : OexC X.K C) (I : Inv X pins σ H s) (hu : s.heap.get? u = some (PySem.W.kxs_mw "ValueError.__init__" a)) (e : H a = some (exo a C none)) (hl : us.length ≤ sizeLine) (h : ∀ s', Inv X pins σ H s' → Q .none s') :
    wpAny (model X.prog X.w) X.A (call (.ref u) us) Q E s := by
  obtain ⟨nm, q, N, bs, bm, sn, sub, ab, col, dd, k0, k1, k2, k3, k5, hC, hbm⟩ := T.cls
  obtain ⟨t1, ho⟩ := exo_at I.hok e
  obtain ⟨hp, g, d, t, os⟩ := s
  refine wpAny_call (codeAny_of_tree ?_)
  show wpAny _ X.A.in1 (callAny (.ref u) ⟨us, []⟩) _ _ _
  simp only [callAny]
  refine wpAny_bind (wpAny_load hu ?_)
  simp only [PySem.W.kxs_mw, show (Value.type "method-wrapper" == Value.type "method" || Value.type "method-wrapper" == Value.type "builtin_function_or_method" || Value.type "method-wrapper" == Value.type "method-wrapper") = true by decide, if_true]
  refine PySem.W.KFB.if_so (by decide) ?_
  refine wpAny_bind ?_
  refine PySem.W.check_bound_init (PySem.F.excBase_ValueError).toExcCallFacts (I.kIn _ _ hC) ho rfl ?_
  refine wpAny_bind (wpAny_pure (wpAny_pure ?_))
  refine ⟨plainId_quiet (PySem.F.excBase_ValueError).init.plain _, codeAny_builtin (PySem.F.excBase_ValueError).initEntry ?_⟩
  show wpAny _ _ (Builtin.«BaseException.__init__» ⟨.ref a :: us, []⟩) _ _ _
  refine PySem.W.exc_init_tree ho hl fun h' k hx ht => ?_
  have J := I.write (t' := t) (x := a) (e := a) (o := exo a C none) (by rw [e]; exact True.intro) (.inl rfl) k ⟨_, hx⟩ (exo_ok hx)
  have eu : upd H a (exo a C none) = H := by
    funext b
    by_cases hb : b = a
    · rw [hb, upd_same, e]
    · rw [upd_ne hb]
  rw [eu] at J
  exact h _ J
/-- super().__init__(e) -/
theorem sup_eval {Qn : Hp → Prop} {pl : Sem Bool} (F : SupF X.prog X.K X.mg f cda cc C) (S : SupE X f cda cc) (hx : X.ex = []) (I : Inv X pins σ H s) (h0 : σ[0]? = some (some (.ref a))) (ha : H a = some (exo a C none)) (he : PE X e te)
    (q : te σ H fun x H1 => [x].length ≤ 1 ∧ H1 a = some (exo a C none) ∧ Qn H1)
    (hev : eval (.Call (.Attribute (.Call (.Name "super" p0) [] [] p1) "__init__" p2) [e] [] pos) X.env = (do
      let ov ← attributeBase (.Call (.Name "super" p0) [] [] p1) "__init__" X.env (eval (.Call (.Name "super" p0) [] [] p1) X.env)
      standAt p2.atName
      let (f, first) ← holding [ov] (getMethod ov "__init__" pl)
      callWith pos f first (backTo pos (starEach [e] X.env)) []))
    (hs : starEach [e] X.env = (false, eval e X.env) :: starEach [] X.env := by rfl) :
    _root_.PySem.wpAt (model X.prog X.w) X.A (.func body X.env) (eval (.Call (.Attribute (.Call (.Name "super" p0) [] [] p1) "__init__" p2) [e] [] pos) X.env) (EP X pins σ fun _ H1 => H1 a = some (exo a C none) ∧ Qn H1) X.xe s := by
  obtain ⟨o1, fd, ar, k1, d1, hp, har⟩ := F.fn
  obtain ⟨o2, vs2, file, tf, k2, d2, hv2, hfile⟩ := F.code
  obtain ⟨o3, k3, d3⟩ := F.cell
  obtain ⟨nm, qq, N, bs, bm, sn, sub, ab, col, dd, kk0, kk1, kk2, kk3, kk5, hC, hbm⟩ := F.oex.cls
  have hcl : PySem.W.clsIn X.K C = some { name := nm, bases := bs, mro := .ref C :: bm, ns := N, qualname := qq, hasDict := true, slotNames := sn, subclasses := sub, abstract := ab, collection := col, hasDel := false } := by unfold PySem.W.clsIn; rw [hC] <;> rfl
  have KI := I.kIn
  obtain ⟨mb, hb1, hb2⟩ := I.mod.blt
  obtain ⟨mS, hn, hself⟩ := self_at I S h0
  obtain ⟨t1, ho⟩ := exo_at I.hok ha
  refine ks_wpAt_MethodCall (pl := pl) ?_ hev
  refine ks_wpAt_super_base S.su S.cl (by decide) S.fu (KI _ _ k1) d1 hp S.co (KI _ _ k2) d2 hv2 hfile F.top ?_
  refine PySem.W.ks_loadName_global I.ok.kind S.su (PySem.Calls.loadGlobal_builtin (by rw [I.ok.glob]; exact I.mod.glob.keeps I.bk) F.noS (by rw [I.ok.blt]; exact hb1.keeps I.bk) ((hb2 _ (by decide)).trans boot_super) ⟨rfl, ?_⟩)
  refine wpAny_loadName_free I.ok.kind S.cl S.ce ⟨_, KI _ _ k3, d3⟩ ?_
  rw [har]
  refine wpAny_loadName_local I.ok.kind S.se hn hself ?_
  obtain ⟨hp0, g, d, t, os⟩ := s
  refine ks_wpAny_isType_cls (KI _ _ hC) rfl ⟨rfl, ?_⟩
  refine ks_wpAny_call_super (KI _ _ hC) rfl ho rfl (fun c z => by cases z) (PySem.W.looks_mroIn KI F.sub) (fun h' hso k => ?_)
  have I1 : Inv X pins σ H ⟨h', g, d, t, os⟩ := I.kept (t' := t) k
  have KI1 := I1.kIn
  have ho1 := k _ _ ho
  have LT : PySem.W.Looks (model X.prog X.w) h' (typeOf (.ref a)) (.ref C) := fun A Q E s k q => wpAny_typeOf_ref (k _ _ ho1) q
  have hne : a ≠ C := fun z => by
    have e1 := KI1 _ _ hC
    rw [z] at ho1
    rw [ho1] at e1
    cases e1
  have hal := F.along
  unfold PySem.W.ks_superIn at hal
  rw [hcl, Option.bind_some] at hal
  refine PySem.W.kxs_getMethod PySem.W.kxs_ValueError hso (PySem.W.looks_opaque KI1 F.clear) (l₀ := .ref C :: bm) ?_ rfl KI1 hal (LT.andThen (PySem.W.looks_subIn KI1 F.isV)) hne (by decide) ?_
  · exact fun A Q E s k q => wpAny_bind ((PySem.W.looks_clsIn KI1 hcl) A _ E s k (wpAny_pure q))
  have k2 : ∀ b o, h'.get? b = some o → (h'.push (PySem.W.kxs_mw "ValueError.__init__" a)).get? b = some o := fun b o z => Heap.get?_push_of_some _ z
  have gu : (h'.push (PySem.W.kxs_mw "ValueError.__init__" a)).get? h'.objs.size = some (PySem.W.kxs_mw "ValueError.__init__" a) := Heap.get?_push_size _ rfl
  have I2 : Inv X pins σ H ⟨h'.push (PySem.W.kxs_mw "ValueError.__init__" a), g, d, t + 1, os⟩ := I1.kept (t' := t + 1) k2
  have nu : H h'.objs.size = none := I1.hok.fresh (Nat.le_refl _)
  have I3 : Inv X ((h'.objs.size, PySem.W.kxs_mw "ValueError.__init__" a) :: pins) σ H ⟨h'.push (PySem.W.kxs_mw "ValueError.__init__" a), g, d, t + 1, os⟩ := I2.pins_of fun p hp => by
    rcases List.mem_cons.mp hp with rfl | hp
    · exact ⟨gu, nu, Nat.ne_of_gt I1.lt, I1.nofs (Nat.le_refl _), fun v z => by cases z⟩
    · exact I2.pin p (List.mem_append_right _ hp)
  refine PySem.W.kxs_callWith (i := "ValueError.__init__") (x := a) (by rw [hs]; rfl) ?_
  rw [hs]
  refine PySem.Calls.evalArgs_plain ?_
  have hA := (pa_cons he pa_nil hs).run pos ((h'.objs.size, PySem.W.kxs_mw "ValueError.__init__" a) :: pins) _ σ H (fun vs H1 => vs.length ≤ 1 ∧ H1 a = some (exo a C none) ∧ Qn H1) I3 q
  rw [hs] at hA
  refine thn hA fun us s2 ⟨vs, H2, J, rv, l1, ha2, q2⟩ => ?_
  have gp := J.pin (h'.objs.size, PySem.W.kxs_mw "ValueError.__init__" a) (List.mem_append_right _ List.mem_cons_self)
  have J2 : Inv X pins σ H2 s2 := J.pins_of fun p hp => J.pin p (List.mem_append_right _ (List.mem_cons_of_mem _ hp))
  refine ⟨gp.1, ?_⟩
  have hl := rv.length
  exact call_mw (a := a) F.oex J2 gp.1 ha2 (by show us.length ≤ sizeLine; rw [← hl, sizeLine_eq]; omega) fun s' J' => ⟨.non, H2, J', rfl, ha2, q2⟩
end
/-! ### the def -/
abbrev supN (name qual : Str) (params : Arguments) (body : List Stmt) (scope : Scope) (cc cda : Addr) : NF := ⟨name, qual, params, body, scope, [("__class__", cc)], cda⟩
theorem fn_sup {CX : CXT} {P : Program} {w : World} {K : PySem.W.Frag} {mg : Str → Option Value} {base : Heap} {k : Nat} {f cda cc : Addr} {name qual : Str} {params : Arguments} {body : List Stmt} {scope : Scope} {dV kV doc pm ct oc : Value} {an od : Option Addr} {osl : Array (Option Value)} {N ps : List Str} {sp : Sp}
    (lk : K.lookup f = some ⟨oc, od, .func (PySem.W.ksFn name qual params body scope dV kV doc pm an (.ref cda) ct cc), osl⟩) (hcd : PySem.W.codeIn K (.ref cda) qual = true) (hcc : ∃ o v, K.lookup cc = some o ∧ o.data = .cell v) (S : NScope N ps ["__class__"] scope)
    (len : ∀ vs H Q E, sp vs H Q E → vs.length = ps.length)
    (hbody : ∀ (A : Around) (outer : List Env) (s : Shared) (H : Hp) (vs : List V) (Q : VK) (E : XK), Room k (A.deeper (envF (supN name qual params body scope cc cda) f s.heap.objs.size)) → sp vs H Q E →
      ∀ s₁, Inv (ncx CX P w K mg base N (supN name qual params body scope cc cda) f A outer s H E) [] (startF N vs [none]) H s₁ →
        _root_.PySem.wpAt (model P w) (ncx CX P w K mg base N (supN name qual params body scope cc cda) f A outer s H E).A (.func body (envF (supN name qual params body scope cc cda) f s.heap.objs.size)) (execs body (envF (supN name qual params body scope cc cda) f s.heap.objs.size))
          (SP (ncx CX P w K mg base N (supN name qual params body scope cc cda) f A outer s H E) [] { nx := fun _ H' => Q .non H', rt := Q }) (ncx CX P w K mg base N (supN name qual params body scope cc cda) f A outer s H E).xe s₁) :
    FnOk P w K mg base CX (k + 1) f (PySem.W.ksFn name qual params body scope dV kV doc pm an (.ref cda) ct cc) ps sp := by
  refine ⟨len, fun A outer s H args us vs Q E hr e0 hb r hsp => ?_⟩
  have hl := len _ _ _ _ hsp
  have KX : K.In s.heap := e0.mod.kin.keeps fun b o e => (e0.bs b o e).1
  have lim : s.heap.NoLimit := e0.mod.nolimit.keeps fun b o e => (e0.bs b o e).1
  obtain ⟨oC, vC, hC1, hC2⟩ := hcc
  have hC3 : base.get? cc = some oC := e0.mod.kin _ _ hC1
  refine ks_codeAny_call_defAt (binds := ps.zip us) hr.depth (KX _ _ lk) rfl lim (PySem.W.codeRec_of KX hcd) rfl hb S.nocell (fun ⟨n, v⟩ hy => S.par n (List.of_mem_zip hy).1) (fun h₁ hns kp => ?_) S.co S.gen S.kind
  have CA : CellsAt (supN name qual params body scope cc cda).cl ["__class__"] [none] s.heap H := by
    refine ⟨rfl, fun y c e => ?_, fun x y c e1 e2 => ?_, fun i y hi => ?_⟩
    · have hy : y = "__class__" ∧ c = cc := by
        simp only [List.lookup] at e
        split at e
        · rename_i z
          exact ⟨by simpa using z, (Option.some.inj e).symm⟩
        · cases e
      obtain ⟨_, rfl⟩ := hy
      exact ⟨(e0.bs _ _ hC3).2, vC, oC, (e0.bs _ _ hC3).1, hC2⟩
    · simp only [List.lookup] at e1 e2
      split at e1
      · rename_i z1
        split at e2
        · rename_i z2
          have z1' : x = "__class__" := by simpa using z1
          have z2' : y = "__class__" := by simpa using z2
          rw [z1', z2']
        · cases e2
      · cases e1
    · cases i with
      | zero =>
        have hy : y = "__class__" := by simpa using hi.symm
        subst hy
        exact ⟨cc, by simp [List.lookup], fun v hv => by simp at hv⟩
      | succ n => simp at hi
  have I : Inv (ncx CX P w K mg base N (supN name qual params body scope cc cda) f A outer s H E) [] (startF N vs [none]) H { s with heap := h₁, toks := s.toks + (ps.zip us).length } := inv_startN S hr.hd e0 hl r CA hns kp
  refine ks_wpAt_mono (hbody A outer s H vs Q E (hr.deeper _) hsp _ I) (fun fl s' hs => ?_) fun e s' hs => hs
  have fin : ∀ {σ' : L2.St} {H' : Hp} {v : V} {u : Value}, Inv (ncx CX P w K mg base N (supN name qual params body scope cc cda) f A outer s H E) [] σ' H' s' → L2.RelV v u → Q v H' → CE outer P w H s Q u s' :=
    fun {σ' H' v u} J rv q => ⟨v, H', J.os, J.bare, J.base, J.hok, rv, q⟩
  cases fl with
  | ret u =>
    obtain ⟨v, σ', H', J, rv, q⟩ := hs
    exact fin J rv q
  | next =>
    obtain ⟨σ', H', J, q⟩ := hs
    exact fin (v := V.non) (u := Value.none) J rfl q
  | brk =>
    obtain ⟨_, _, _, q⟩ := hs
    exact False.elim q
  | cont =>
    obtain ⟨_, _, _, q⟩ := hs
    exact False.elim q
end DD

/-! # Tuples of tuples of numbers in an f-string: some text of a bounded length -/
namespace DD
variable [LTb]
open PySem PySem.Spec PyProof.Rows L2
section
variable {prog : Program} {w : World}
/-- the thing x has a text of at most n signs, whatever is under way -/
def AnyR (prog : Program) (w : World) (h : Heap) (k : Nat) (x : Value) (n : Nat) : Prop := ∀ (base : Nat), base + n ≤ sizeLine → ∀ (A : Around) (E : Value → Shared → Prop) (s : Shared) (Q : Str → Shared → Prop), s.heap = h → A.units + k < cLine →
  (∀ (m : Str) (tk : Tok), m.length ≤ n → Q m { s with toks := tk }) → wpAny (model prog w) A (pyReprUnder base x) Q E s
theorem AnyR.of_is {h : Heap} {k n : Nat} {x : Value} {t : Str} (r : ReprIs prog w x t) (l : t.length ≤ n) : AnyR prog w h k x n := fun base hb A E s Q _ _ q => r base (by omega) A E s Q fun tk => q t tk l
theorem AnyR.low {h : Heap} {k n : Nat} {x : Value} (r : AnyR prog w h k x n) : AnyR prog w h (k + 1) x n := fun base hb A E s Q e hu q => r base hb A E s Q e (by omega) q
def pile (ns : List Nat) : Nat := (ns.map (· + 2)).sum
theorem pile_cons (n : Nat) (ns : List Nat) : pile (n :: ns) = n + 2 + pile ns := by
  unfold pile
  rw [List.map_cons, List.sum_cons]
abbrev Short : List Str → List Nat → Prop := Paired fun (t : Str) (n : Nat) => t.length ≤ n
theorem short_pile : ∀ {ts : List Str} {ns : List Nat}, Short ts ns → piled ts ≤ pile ns
  | [], [], .nil => Nat.zero_le _
  | t :: ts, n :: ns, .cons h1 h2 => by
    have := short_pile h2
    rw [piled_cons, pile_cons]
    omega
abbrev AnyRs (prog : Program) (w : World) (h : Heap) (k : Nat) : List Value → List Nat → Prop := Paired (AnyR prog w h k)
variable {A : Around} {E : Value → Shared → Prop} {h : Heap} {k : Nat}
theorem any_fold (hu : A.units + k < cLine) : ∀ (l : List Value) (ns : List Nat) (acc : Array Str) (n : Nat) (s : Shared) (Q : (Array Str × Nat) → Shared → Prop), AnyRs prog w h k l ns → s.heap = h → n + pile ns ≤ sizeLine →
    (∀ ts m tk, Short ts ns → Q ⟨acc ++ ts.toArray, m⟩ { s with toks := tk }) → wpAny (model prog w) A (forIn l (⟨acc, n⟩ : (Array Str × Nat)) tupBody) Q E s := by
  intro l
  induction l with
  | nil =>
    intro ns acc n s Q hT _ _ q
    cases hT
    have q0 := q [] n s.toks .nil
    simp only [List.forIn_nil]
    exact wpAny_pure (by simpa using q0)
  | cons x l ih =>
    intro ns acc n s Q hT hs hn q
    cases hT with
    | cons hx hl =>
      rename_i b ns
      rw [pile_cons] at hn
      rw [List.forIn_cons]
      refine wpAny_bind (wpAny_bind (hx (n + 1) (by omega) _ _ _ _ hs hu fun m tk hm => wpAny_pure ?_))
      refine ih ns (acc.push m) (n + (m.length + 2)) _ Q hl hs (by omega) fun ts m2 tk2 hts => ?_
      have q1 := q (m :: ts) m2 tk2 (.cons hm hts)
      simpa using q1
/-- what stands between the brackets, and these -/
theorem any_rest {s : Shared} {a : Addr} {o : Obj} {items : Array Value} {n base : Nat} {ns : List Nat} {Q : Fin → Shared → Prop} (hu : A.units + k < cLine) (ha : s.heap.get? a = some o) (hd : o.data = .seq items n) (hT : AnyRs prog w s.heap k items.toList ns) (hb : base + (pile ns + 7) ≤ sizeLine)
    (q : ∀ (m : Str) (u tk : Tok), m.length ≤ pile ns + 7 → Q (.done (.ret (.str m u))) { s with toks := tk }) : wpAny (model prog w) A (tupleReprRest base (.ref a)) Q E s := by
  unfold tupleReprRest Builtin.Tuple.tupleItemsOf
  refine wpAny_bind (wpAny_bind (wpAny_seqItems ha hd (wpAny_pure ?_)))
  rw [← Array.forIn_toList]
  refine wpAny_bind (any_fold hu _ ns _ _ _ _ hT rfl (by omega) fun ts m tk hts => ?_)
  have hl : ts.length = items.size := by rw [hts.length, ← hT.length, Array.length_toList]
  have h1 := short_pile hts
  have h2 := fmt_text ts
  have h3 : (tupleText ts).length ≤ sizeLine := by omega
  refine wpAny_bind (wpAny_mkStr (wpAny_pure ?_) (by simpa [tupleText, hl] using h3))
  have q1 := q (tupleText ts) tk (tk + 1) (by omega)
  simpa [tupleText, hl] using q1
theorem any_way {s : Shared} {a : Addr} {o : Obj} {items : Array Value} {n base : Nat} {ns : List Nat} {Q : Fin → Shared → Prop} (hu : A.units + k < cLine) (ha : s.heap.get? a = some o) (hd : o.data = .seq items n) (hT : AnyRs prog w s.heap k items.toList ns) (hb : base + (pile ns + 7) ≤ sizeLine)
    (q : ∀ (m : Str) (u tk : Tok), m.length ≤ pile ns + 7 → Q (.done (.ret (.str m u))) { s with toks := tk }) : wpAny (model prog w) A (Builtin.tupleReprAt base ⟨[.ref a], []⟩) Q E s := by
  rw [tuple_repr_tree]
  refine wpAny_bind (fmt_underWay fun b => ?_)
  cases b with
  | true =>
    refine PySem.W.KFB.if_so rfl ?_
    refine wpAny_bind (wpAny_rule ?_)
    refine wpAny_bind (wpAny_mkStr (wpAny_pure ?_) (by decide +kernel))
    exact q "(...)" _ _ (Nat.le_trans fmt_way (by omega))
  | false =>
    refine PySem.W.KFB.if_not rfl ?_
    exact any_rest hu ha hd hT hb q
/-- a tuple of such -/
theorem any_tuple {a : Addr} {o : Obj} {items : Array Value} {n : Nat} {ns : List Nat} (ha : h.get? a = some o) (hc : o.cls = .type "tuple") (hd : o.data = .seq items n) (hT : AnyRs prog w h k items.toList ns) : AnyR prog w h (k + 1) (.ref a) (pile ns + 7) := by
  intro base hb A E s Q hs hu q
  subst hs
  refine wpAny_pyReprUnder_ref (by omega) (wpAny_pyReprObjUnder_twin (twin := "tuple.__repr__.under") ⟨o, ha, hc⟩ F.slot_tuple_repr rfl (by omega) ?_)
  refine call_twin_own (F.quiet_tuple_repr_under _) F.entry_tuple_repr_under F.check_tuple_repr_under ⟨o, ha, hc⟩ F.slot_tuple_repr (F.args_tuple_repr_1 _) (wpOwn_of_wpAny ?_)
  have hcu := units_under_tuple_repr_under A ⟨[.ref a, rawInt base], []⟩
  exact any_way (k := k) (by rw [hcu]; omega) ha hd hT hb fun m u tk hm => ⟨⟨m, u, rfl⟩, m, u, rfl, q m tk hm⟩
/-- {t} -/
theorem any_field {s : Shared} {a : Addr} {o : Obj} {items : Array Value} {n : Nat} {ns : List Nat} {Q : Value → Shared → Prop} (hu : A.units + k + 12 < cLine) (ha : s.heap.get? a = some o) (hc : o.cls = .type "tuple") (hd : o.data = .seq items n) (hT : AnyRs prog w s.heap k items.toList ns) (hb : pile ns + 7 ≤ sizeLine)
    (q : ∀ (m : Str) (u tk : Tok), m.length ≤ pile ns + 7 → Q (.str m u) { s with toks := tk }) : wpAny (model prog w) A (formatField (.ref a) Str.empty) Q E s := by
  refine wpAny_formatField_slot (fun _ _ => nofun) (by omega) ⟨o, ha, hc⟩ F.slot_tuple_format F.slot_tuple_str F.slot_tuple_repr ?_
  refine wpAny_call (codeAny_call_builtin_own (Code.quiet_builtin _ (by decide +kernel)) F.entry_tuple_repr (F.slot_tuple_repr.check _ _ _ _ _ _ _ _ ⟨o, ha, hc⟩ (F.args_tuple_repr_1 _) (wpOwn_of_wpAny ?_)))
  exact any_way (k := k) (by rw [units_under_tuple_repr]; show A.units + 1 + 1 + 1 + k < cLine; omega) ha hd hT (by omega) fun m u tk hm => ⟨m, u, rfl, q m u tk hm⟩
end
/-! ### a datum's text -/
def fmtI (i : Int) : Bool := decide (i.natAbs < 10 ^ 30)
def repCs (f : D → Option Nat) : List D → Option (List Nat)
  | [] => some []
  | d :: ds => (f d).bind fun n => (repCs f ds).map (n :: ·)
/-- a bound for the text of numbers in tuples, k deep at the most -/
def repC : Nat → D → Option Nat
  | k, .int i => if fmtI i = true then some 31 else none
  | k + 1, .tuple ds => (repCs (repC k) ds).map fun ns => pile ns + 7
  | _, _ => none
theorem pow_log {a : Nat} (h : a < 10 ^ 30) : a.log2 < 1920 := by
  by_cases z : a = 0
  · subst z; decide
  · rw [Nat.log2_lt z]
    exact Nat.lt_trans h (by decide +kernel)
theorem fmtI_ok {i : Int} (h : fmtI i = true) : i.natAbs.log2 < 1920 ∧ (Str.ofString (toString i)).length ≤ 31 := by
  have h1 : i.natAbs < 10 ^ 30 := of_decide_eq_true h
  exact ⟨pow_log h1, by rw [PySem.ofString_length]; exact int_text_length_le10 (by decide) h1⟩
section
variable {X : Cx} {pins : List (Addr × Obj)} {σ : L2.St} {H : Hp} {s : Shared} {B : Addr → Prop}
theorem any_all (I : Inv X pins σ H s) {k : Nat} {f : D → Option Nat} (hf : ∀ (d : D) (v : V) (u : Value) (n : Nat), R X.K B H v d → RelV v u → f d = some n → AnyR X.prog X.w s.heap k u n) : ∀ (ds : List D) (vs : List V) (us : List Value) (ns : List Nat), RA X.K B H vs ds → Vals vs us → repCs f ds = some ns → AnyRs X.prog X.w s.heap k us ns
  | [], _, _, _, .nil, .nil, e => by
    cases e
    exact .nil
  | d :: ds, _, _, ns, .cons h1 h2, .cons r1 r2, e => by
    unfold repCs at e
    obtain ⟨n, e1, e⟩ := some_bind e
    obtain ⟨ms, e2, rfl⟩ := opt_mapN e
    exact .cons (hf _ _ _ _ h1 r1 e1) (any_all I hf ds _ _ ms h2 r2 e2)
theorem any_R (I : Inv X pins σ H s) : ∀ (k : Nat) (d : D) (v : V) (u : Value) (n : Nat), R X.K B H v d → RelV v u → repC k d = some n → AnyR X.prog X.w s.heap k u n := by
  intro k
  induction k with
  | zero =>
    intro d v u n rd r e
    unfold repC at e
    split at e
    · obtain ⟨f1, e⟩ := if_some e
      cases e
      obtain ⟨l1, l2⟩ := fmtI_ok f1
      cases rd
      obtain ⟨t, rfl⟩ := r
      exact AnyR.of_is (ReprIs.int t l1) l2
    · rename_i z; cases z
    · cases e
  | succ k ih =>
    intro d v u n rd r e
    unfold repC at e
    split at e
    · obtain ⟨f1, e⟩ := if_some e
      cases e
      obtain ⟨l1, l2⟩ := fmtI_ok f1
      cases rd
      obtain ⟨t, rfl⟩ := r
      exact AnyR.of_is (ReprIs.int t l1) l2
    · rename_i k' ds z
      cases z
      obtain ⟨ns, e1, rfl⟩ := opt_mapN e
      cases rd with
      | tup ht ra =>
        cases r
        obtain ⟨its, rv, ⟨o, ho, hcl, m, hd⟩, _⟩ := I.tuple ht.sqt
        exact any_tuple ho hcl hd (by rw [List.toList_toArray]; exact any_all I ih _ _ _ _ ra rv e1)
    · cases e
end
end DD

/-! # Own exceptions over data: made, raised, caught, read -/
namespace DD
variable [LTb]
open PySem L2 NdefX
/-! ### a datum in an f-string -/
def fmtIs : List D → Bool
  | [] => true
  | .int i :: r => fmtI i && fmtIs r
  | _ => false
/-- a bound for its text, where it has one -/
def fmtB : D → Option Nat
  | .int i => if fmtI i = true then some 31 else none
  | .str x => if x.length ≤ 1000 then some x.length else none
  | .tuple ds => if fmtIs ds = true ∧ ds.length ≤ 20 then some 700 else (repCs (repC 4) ds).bind fun ns => if pile ns ≤ 900 then some (pile ns + 7) else none
  | _ => none
theorem repr_ints {P : Program} {w : World} {K : Fg} {B : Addr → Prop} {H : Hp} : ∀ {ds : List D} {vs : List V} {us : List Value}, RA K B H vs ds → Vals vs us → fmtIs ds = true → ∃ ts : List Str, ReprAll P w us ts ∧ piled ts ≤ 33 * ds.length
  | [], _, _, .nil, .nil, _ => ⟨[], .nil, Nat.zero_le _⟩
  | d :: ds, _, _, .cons h1 h2, .cons r1 r2, f => by
    unfold fmtIs at f
    split at f
    · rename_i hc; cases hc
    · rename_i i r hc
      cases hc
      obtain ⟨f1, f2⟩ := Bool.and_eq_true_iff.mp f
      obtain ⟨ts, t1, t2⟩ := repr_ints (P := P) (w := w) h2 r2 f2
      obtain ⟨l1, l2⟩ := fmtI_ok f1
      cases h1
      obtain ⟨t, rfl⟩ := r1
      refine ⟨_, .cons (ReprIs.int t l1) t1, ?_⟩
      rw [piled_cons, List.length_cons]
      omega
    · cases f
/-- {e}, e a datum that has a text -/
def tFmtD (K : Fg) (te : TE) : TE := fun σ H Q => te σ H fun x H1 => ∃ (B : Addr → Prop) (d : D) (n : Nat), R K B H1 x d ∧ fmtB d = some n ∧ ∀ m : Str, m.length ≤ n → Q (.str m) H1
theorem pe_fmtD {X : Cx} {e : Expr} {te : TE} {pos : Pos} (hu : X.A.units + 20 < cLine) (he : PE X e te) : PE X (.FormattedValue e (-1) none pos) (tFmtD X.K te) := by
  refine ⟨fun pins s σ H Q I h => wpAny_FormattedValue_plain (thn (he.run pins s σ H _ I h) fun v s1 hv => ?_)⟩
  obtain ⟨x, H1, I1, r1, B, d, n, rd, hf, q⟩ := hv
  unfold fmtB at hf
  split at hf
  · obtain ⟨f1, e⟩ := if_some hf
    cases e
    obtain ⟨l1, l2⟩ := fmtI_ok f1
    cases rd
    obtain ⟨t, rfl⟩ := r1
    exact wpAny_formatField_int l1 ⟨.str _, H1, I1.tok _, ⟨_, rfl⟩, q _ l2⟩
  · obtain ⟨f1, e⟩ := if_some hf
    cases e
    cases rd
    obtain ⟨t, rfl⟩ := r1
    exact wpAny_formatField_str ⟨.str _, H1, I1, ⟨t, rfl⟩, q _ (Nat.le_refl _)⟩ ⟨.str _, H1, I1.tok _, ⟨_, rfl⟩, q _ (Nat.le_refl _)⟩ (Nat.le_trans f1 (by rw [sizeLine_eq]; decide))
  · cases rd with
    | tup ht ra =>
      rename_i a xs
      cases r1
      obtain ⟨its, rv, ⟨o, ho, hcl, n, hd⟩, _⟩ := I1.tuple ht.sqt
      split at hf
      · rename_i f12
        obtain ⟨f1, f2⟩ := f12
        cases hf
        obtain ⟨ts, t1, t2⟩ := repr_ints (P := X.prog) (w := X.w) ra rv f1
        have t3 := fmt_text ts
        have z := sizeLine_eq
        exact fmt_tuple (by omega) ho hcl hd t1 (by omega) fun m u tk hm => ⟨.str m, H1, I1.tok _, ⟨u, rfl⟩, q m (by omega)⟩
      · obtain ⟨ns, e1, hf⟩ := some_bind hf
        obtain ⟨f3, hf⟩ := if_some hf
        cases hf
        have z := sizeLine_eq
        exact any_field (k := 4) (by omega) ho hcl hd (by rw [List.toList_toArray]; exact any_all I1 (any_R I1 4) _ _ _ _ ra rv e1) (by omega) fun m u tk hm => ⟨.str m, H1, I1.tok _, ⟨u, rfl⟩, q m hm⟩
  · cases hf
/-- the parts of an f-string: a text, a slot -/
def partT (K : Fg) : Str ⊕ Nat → TE
  | .inl x => tC (.str x)
  | .inr i => tFmtD K (tVar i)
theorem tJs_parts {K : Fg} {σ : St} {H : Hp} {Q : Str → Hp → Prop} : ∀ (ps : List (Str ⊕ Nat)) (acc : Str), (∀ p ∈ ps, match p with
    | .inl x => x.length ≤ 1000
    | .inr i => ∃ v B d n, σ[i]? = some (some v) ∧ R K B H v d ∧ fmtB d = some n ∧ n ≤ 1000) → acc.length + 1000 * ps.length ≤ 100000 → (∀ m, Q m H) → tJs (ps.map (partT K)) acc σ H Q
  | [], acc, _, _, q => q acc
  | .inl x :: ps, acc, h, l, q => by
    have h1 : x.length ≤ 1000 := h _ List.mem_cons_self
    have z := sizeLine_eq
    rw [List.length_cons] at l
    refine ⟨x, rfl, by rw [strLen_append]; omega, tJs_parts ps _ (fun p hp => h p (List.mem_cons_of_mem _ hp)) (by rw [strLen_append]; omega) q⟩
  | .inr i :: ps, acc, h, l, q => by
    obtain ⟨v, B, d, n, h1, h2, h3, h4⟩ : ∃ v B d n, σ[i]? = some (some v) ∧ R K B H v d ∧ fmtB d = some n ∧ n ≤ 1000 := h _ List.mem_cons_self
    have z := sizeLine_eq
    rw [List.length_cons] at l
    refine ⟨v, h1, B, d, n, h2, h3, fun m hm => ⟨m, rfl, by rw [strLen_append]; omega, tJs_parts ps _ (fun p hp => h p (List.mem_cons_of_mem _ hp)) (by rw [strLen_append]; omega) q⟩⟩
theorem fmtB_le {d : D} {n : Nat} (h : fmtB d = some n) : n ≤ 1000 := by
  unfold fmtB at h
  split at h
  · obtain ⟨_, e⟩ := if_some h; cases e; decide
  · obtain ⟨z, e⟩ := if_some h; cases e; exact z
  · split at h
    · cases h; decide
    · obtain ⟨ns, _, h⟩ := some_bind h
      obtain ⟨z, h⟩ := if_some h
      cases h
      omega
  · cases h

/-! ### what __init__ promises -/
def spI (K : Fg) (C : Addr) (ns : List Str) : Sp := fun vs H Q _ => ∃ (a : Addr) (ws : List V) (ds : List D) (B : Addr → Prop), vs = .ref a :: ws ∧ ws.length = ns.length ∧ RA K B H ws ds ∧ (∀ d ∈ ds, (fmtB d).isSome = true) ∧ H a = some (exo a C none) ∧
  ∀ d H2, H d = none → d ≠ a → H2 a = some (exo a C (some d)) → H2 d = some (exd d (fieldsOf ns ws)) → (∀ b, b ≠ a → b ≠ d → H2 b = H b) → Q .non H2
/-- the stores self.n = n, one after the other -/
def tSt1 (K : Fg) (ns : List (Str × Nat)) : TS := fun Dn σ H => match ns with
  | [] => Dn.nx σ H
  | (n, i) :: r => tOst K n (tVar 0) (tVar i) { Dn with nx := fun σ' H' => tSt1 K r Dn σ' H' } σ H
theorem stores_run {K : Fg} {C a d : Addr} {σ : St} {Dn : Ends} (T : OexC K C) (h0 : σ[0]? = some (some (.ref a))) : ∀ (ns : List (Str × Nat)) (ws : List V) (done : List (Str × V)) (H : Hp),
    (∀ p ∈ ns, PySem.W.findIn K (.ref C) p.1 = some none) → ns.length = ws.length → (∀ (j : Nat) (p : Str × Nat) (w : V), ns[j]? = some p → ws[j]? = some w → σ[p.2]? = some (some w)) →
    H a = some (exo a C (some d)) → H d = some (exd d done) → d ≠ a → done.length + ns.length ≤ 900 →
    (∀ H2, H2 a = some (exo a C (some d)) → H2 d = some (exd d ((ns.map (·.1)).zip ws |>.reverse |>.append done)) → (∀ b, b ≠ a → b ≠ d → H2 b = H b) → Dn.nx σ H2) → tSt1 K ns Dn σ H := by
  intro ns
  induction ns with
  | nil =>
    intro ws done H _ hl _ ha hd _ _ q
    cases ws with
    | nil => exact q H ha hd fun _ _ _ => rfl
    | cons _ _ => cases hl
  | cons p ns ih =>
    intro ws done H hno hl hs ha hd ne hlen q
    cases ws with
    | nil => cases hl
    | cons w ws =>
      rw [List.length_cons] at hlen
      refine ⟨w, hs 0 p w rfl rfl, .ref a, h0, a, C, rfl, T, hno p List.mem_cons_self, .inr ⟨d, done, ha, hd, by omega, ?_⟩⟩
      refine ih ws ((p.1, w) :: done) _ (fun p' hp => hno p' (List.mem_cons_of_mem _ hp)) (by simpa using hl) (fun j p' w' h1 h2 => hs (j + 1) p' w' h1 h2) (by rw [upd_ne (Ne.symm ne)]; exact ha) upd_same ne (by rw [List.length_cons]; omega) fun H2 h1 h2 h3 => q H2 h1 ?_ fun b b1 b2 => by rw [h3 b b1 b2, upd_ne b2]
      rw [h2]
      simp [List.append_assoc]
theorem stores_all {K : Fg} {C a : Addr} {σ : St} {Dn : Ends} (T : OexC K C) (h0 : σ[0]? = some (some (.ref a))) {ns : List (Str × Nat)} {ws : List V} {H : Hp}
    (hno : ∀ p ∈ ns, PySem.W.findIn K (.ref C) p.1 = some none) (hl : ns.length = ws.length) (hne : ns ≠ []) (hs : ∀ (j : Nat) (p : Str × Nat) (w : V), ns[j]? = some p → ws[j]? = some w → σ[p.2]? = some (some w)) (ha : H a = some (exo a C none)) (hlen : ns.length ≤ 900)
    (q : ∀ d H2, H d = none → d ≠ a → H2 a = some (exo a C (some d)) → H2 d = some (exd d (fieldsOf (ns.map (·.1)) ws)) → (∀ b, b ≠ a → b ≠ d → H2 b = H b) → Dn.nx σ H2) : tSt1 K ns Dn σ H := by
  cases ns with
  | nil => exact (hne rfl).elim
  | cons p ns =>
    cases ws with
    | nil => cases hl
    | cons w ws =>
      refine ⟨w, hs 0 p w rfl rfl, .ref a, h0, a, C, rfl, T, hno p List.mem_cons_self, .inl ⟨ha, fun d hd ne => ?_⟩⟩
      rw [List.length_cons] at hlen
      refine stores_run T h0 ns ws [(p.1, w)] _ (fun p' hp => hno p' (List.mem_cons_of_mem _ hp)) (by simpa using hl) (fun j p' w' h1 h2 => hs (j + 1) p' w' h1 h2) upd_same (by rw [upd_ne ne, upd_same]) ne (by rw [List.length_singleton]; omega) fun H2 h1 h2 h3 => q d H2 hd ne h1 ?_ fun b b1 b2 => by rw [h3 b b1 b2, upd_ne b1, upd_ne b2]
      rw [h2]
      simp [fieldsOf]
/-- super().__init__(e) as a statement's expression -/
abbrev supC (e : Expr) (p0 p1 p2 pos : Pos) : Expr := .Call (.Attribute (.Call (.Name "super" p0) [] [] p1) "__init__" p2) [e] [] pos
/-- the parameters behind self, at their slots -/
def slotsFrom : Nat → List Str → List (Str × Nat)
  | _, [] => []
  | k, n :: ns => (n, k) :: slotsFrom (k + 1) ns
theorem slots_names : ∀ (k : Nat) (ns : List Str), (slotsFrom k ns).map (·.1) = ns
  | _, [] => rfl
  | k, n :: ns => by rw [slotsFrom, List.map_cons, slots_names (k + 1) ns]
theorem slots_len : ∀ (k : Nat) (ns : List Str), (slotsFrom k ns).length = ns.length
  | _, [] => rfl
  | k, n :: ns => by rw [slotsFrom, List.length_cons, slots_len (k + 1) ns, List.length_cons]
theorem slots_at : ∀ (k : Nat) (ns : List Str) (j : Nat) (p : Str × Nat), (slotsFrom k ns)[j]? = some p → p.2 = k + j
  | _, [], j, p, h => by simp [slotsFrom] at h
  | k, n :: ns, 0, p, h => by cases h; rfl
  | k, n :: ns, j + 1, p, h => by rw [slots_at (k + 1) ns j p h]; omega
def partsOk (n : Nat) (ps : List (Str ⊕ Nat)) : Bool := ps.all fun p => match p with
  | .inl x => decide (x.length ≤ 1000)
  | .inr i => decide (1 ≤ i ∧ i ≤ n)
theorem fn_init {CX : CXT} {P : Program} {w : World} {K : Fg} {mg : Str → Option Value} {base : Heap} {k : Nat} {f cda cc C : Addr} {name qual : Str} {params : Arguments} {scope : Scope} {dV kV doc pm ct oc : Value} {an od : Option Addr} {osl : Array (Option Value)} {N ns : List Str}
    {e : Expr} {p0 p1 p2 p3 p4 : Pos} {stores : List Stmt} {parts : List (Str ⊕ Nat)} {pl : Sem Bool}
    (lk : K.lookup f = some ⟨oc, od, .func (PySem.W.ksFn name qual params (.Expr (supC e p0 p1 p2 p3) p4 :: stores) scope dV kV doc pm an (.ref cda) ct cc), osl⟩) (hcd : PySem.W.codeIn K (.ref cda) qual = true) (hcc : ∃ o v, K.lookup cc = some o ∧ o.data = .cell v)
    (S : NScope N ("self" :: ns) ["__class__"] scope) (su : scope.names.lookup ("super" : Str) = some .globalImplicit) (T : OexC K C) (F : SupF P K mg f cda cc C) (hne : ns ≠ []) (hns : ns.length ≤ 20) (hpl : parts.length ≤ 50) (hpo : partsOk ns.length parts = true) (hno : ∀ n ∈ ns, PySem.W.findIn K (.ref C) n = some none)
    (he : ∀ (A : Around) (outer : List Env) (s : Shared) (H : Hp) (E : XK), A.units + 3 + 20 < cLine → PE (ncx CX P w K mg base N (supN name qual params (.Expr (supC e p0 p1 p2 p3) p4 :: stores) scope cc cda) f A outer s H E) e (fun σ H Q => tJs (parts.map (partT K)) Str.empty σ H fun out H1 => Q (.str out) H1))
    (hst : ∀ (A : Around) (outer : List Env) (s : Shared) (H : Hp) (E : XK), PSs (ncx CX P w K mg base N (supN name qual params (.Expr (supC e p0 p1 p2 p3) p4 :: stores) scope cc cda) f A outer s H E) stores (tSt1 K (slotsFrom 1 ns)))
    (hi : ∀ n : Addr, interactive (envF (supN name qual params (.Expr (supC e p0 p1 p2 p3) p4 :: stores) scope cc cda) f n) = false) (hsw : ∀ n : Addr, swapsWith (supC e p0 p1 p2 p3) none p4.line (envF (supN name qual params (.Expr (supC e p0 p1 p2 p3) p4 :: stores) scope cc cda) f n) = pure false)
    (hev : ∀ n : Addr, eval (supC e p0 p1 p2 p3) (envF (supN name qual params (.Expr (supC e p0 p1 p2 p3) p4 :: stores) scope cc cda) f n) = (do
      let ov ← attributeBase (.Call (.Name "super" p0) [] [] p1) "__init__" (envF (supN name qual params (.Expr (supC e p0 p1 p2 p3) p4 :: stores) scope cc cda) f n) (eval (.Call (.Name "super" p0) [] [] p1) (envF (supN name qual params (.Expr (supC e p0 p1 p2 p3) p4 :: stores) scope cc cda) f n))
      standAt p2.atName
      let (f', first) ← holding [ov] (getMethod ov "__init__" pl)
      callWith p3 f' first (backTo p3 (starEach [e] (envF (supN name qual params (.Expr (supC e p0 p1 p2 p3) p4 :: stores) scope cc cda) f n))) []))
    (hse : ∀ n : Addr, starEach [e] (envF (supN name qual params (.Expr (supC e p0 p1 p2 p3) p4 :: stores) scope cc cda) f n) = (false, eval e (envF (supN name qual params (.Expr (supC e p0 p1 p2 p3) p4 :: stores) scope cc cda) f n)) :: starEach [] (envF (supN name qual params (.Expr (supC e p0 p1 p2 p3) p4 :: stores) scope cc cda) f n)) :
    FnOk P w K mg base CX (k + 1) f (PySem.W.ksFn name qual params (.Expr (supC e p0 p1 p2 p3) p4 :: stores) scope dV kV doc pm an (.ref cda) ct cc) ("self" :: ns) (spI K C ns) := by
  refine fn_sup lk hcd hcc S (fun vs H Q E ⟨a, ws, ds, B, e1, l, _⟩ => by rw [e1, List.length_cons, List.length_cons, l]) fun A outer s H vs Q E hr ⟨a, ws, ds, B, e1, hl, ra, hf, ha, q⟩ s₁ I => ?_
  subst e1
  have hu : A.units + 3 + 20 < cLine := by
    have h1 := hr.un
    have h2 : (A.deeper (envF (supN name qual params (.Expr (supC e p0 p1 p2 p3) p4 :: stores) scope cc cda) f s.heap.objs.size)).units = A.units + 3 := rfl
    omega
  have h0 : (startF N (V.ref a :: ws) [none])[0]? = some (some (.ref a)) := rfl
  have hw : ∀ (j : Nat) (v : V), ws[j]? = some v → (startF N (V.ref a :: ws) [none])[1 + j]? = some (some v) := fun j v hj => by
    have hj2 := (List.getElem?_eq_some_iff.mp hj).1
    unfold startF
    rw [List.getElem?_append_left (by rw [List.length_map, List.length_cons]; omega), List.getElem?_map, Nat.add_comm, List.getElem?_cons_succ, hj]
    rfl
  have nself : N[0]? = some ("self" : Str) := by
    have h1 := congrArg (fun l => l[0]?) S.pre
    simp only [List.cons_append, List.getElem?_cons_zero] at h1
    rw [List.getElem?_take_of_lt (by rw [List.length_cons]; omega)] at h1
    exact h1
  have SE : SupE (ncx CX P w K mg base N (supN name qual params (.Expr (supC e p0 p1 p2 p3) p4 :: stores) scope cc cda) f A outer s H E) f cda cc :=
    ⟨rfl, rfl, su, S.frk _ List.mem_cons_self, by show List.lookup _ [(("__class__" : Str), cc)] = _; simp [List.lookup], S.par _ List.mem_cons_self, nself⟩
  refine ks_wpAt_execs_cons (ks_wpAt_Expr_any (hi := hi _) (hs := hsw _) ?_)
  refine ks_wpAt_mono (sup_eval (Qn := fun H1 => H1 = H) F SE rfl I h0 ha (he A outer s H E hu) (tJs_parts parts Str.empty (fun p hp => ?_) (by show 0 + _ ≤ _; omega) fun m => ⟨Nat.le_refl _, ha, rfl⟩) (hev _) (hse _)) (fun u s2 ⟨v, H1, J, rv, ha1, e1⟩ => ?_) fun _ _ z => z
  · have h1 := List.all_eq_true.mp hpo p hp
    cases p with
    | inl x => exact of_decide_eq_true h1
    | inr i =>
      obtain ⟨i1, i2⟩ : 1 ≤ i ∧ i ≤ ns.length := of_decide_eq_true h1
      have h2 : i - 1 < ds.length := by rw [← ra.length, hl]; omega
      have hd : ds[i - 1]? = some ds[i - 1] := List.getElem?_eq_getElem h2
      obtain ⟨v, hv, rv⟩ := ra.get hd
      obtain ⟨n, hn⟩ := Option.isSome_iff_exists.mp (hf _ (List.getElem_mem h2))
      have h3 := hw _ _ hv
      rw [show 1 + (i - 1) = i by omega] at h3
      exact ⟨v, B, _, n, h3, rv, hn, fmtB_le hn⟩
  · subst e1
    refine wpAt_of_wpAny ((hst A outer s H1 E).run [] s2 _ _ _ J (stores_all T h0 (fun p hp => ?_) (by rw [slots_len, hl]) (fun z => hne ?_) (fun j p v h1 h2 => by rw [slots_at 1 ns j p h1]; exact hw j v h2) ha1 (by rw [slots_len]; omega) fun d H2 h1 h2 h3 h4 h5 => ?_))
    · refine hno _ ?_
      rw [← slots_names 1 ns]
      exact List.mem_map_of_mem hp
    · have h1 := slots_len 1 ns
      rw [z] at h1
      exact List.length_eq_zero_iff.mp h1.symm
    · rw [slots_names] at h4
      exact q d H2 h1 h2 h3 h4 h5
end DD

namespace DD
variable [LTb]
open PySem PySem.Spec PyProof.Rows L2
section
variable {X : Cx} {CX : CXT} {x : Str} {C fI : Addr} {k : Nat} {fd : FuncData} {ps : List Str} {sp : Sp} {e : Expr} {es : List Expr} {ta : TA} {p pos : Pos}
/-- a new exception of the own class at C, its context None -/
theorem pmk_init (T : OexC X.K C) (iC : PySem.W.findIn X.K (.ref C) "__init__" = some (some (.ref fI))) (tI : PySem.W.typeIn X.K (.ref fI) = some (.type "function")) (F1 : FnOk X.prog X.w X.K X.mg X.base CX k fI fd ps sp)
    (hr : Room (k + 1) X.A) (hb : Binds X.K fd ps []) (hx : Passes CX X fun _ _ _ => False) (hg : Gl X x) (hm : X.mg x = some (.ref C)) (ha : PA X (e :: es) ta) (hdb : (x == ("__debug__" : Str)) = false := by decide)
    (he : starEach (e :: es) X.env = (false, eval e X.env) :: starEach es X.env := by rfl) (hpl : (backTo pos (starEach es X.env)).any (·.1) = false := by rfl) : L2N.PMk X (.Call (.Name x p) (e :: es) [] pos) (tMkO C sp [] ta) := by
  intro pins s σ H Q I h
  obtain ⟨nm, q, N, bs, bm, sn, sub, ab, col, dd, k0, k1, k2, k3, k5, hC, hbm⟩ := T.cls
  refine wpAny_Call_Name_kw (ld_glob I hg hm (PySem.W.callWith_K (h₀ := X.base) I.ok.mod.kin T.kC (thn (ha.run pos pins s σ H _ I h) ?_) he hpl) hdb)
  rintro us ⟨hp, g, dr, tk, os⟩ ⟨vs, H1, I1, r1, hz, q1⟩
  refine ⟨I1.kIn, ?_⟩
  have r0 : Vals (vs ++ []) (us ++ []) := r1.append .nil
  have new : H1 (hp.objs.size + 1) = none := I1.hok.fresh (Nat.le_succ _)
  have want := q1 _ new
  have ho : ((hp.push (PySem.W.kdv_tup us)).push (PySem.HandSPX.excO C hp.objs.size)).get? (hp.objs.size + 1) = some (PySem.HandSPX.excO C hp.objs.size) := by heap_get
  have keep : ∀ b o, hp.get? b = some o → ((hp.push (PySem.W.kdv_tup us)).push (PySem.HandSPX.excO C hp.objs.size)).get? b = some o := fun _ _ z => Heap.get?_push_of_some _ (Heap.get?_push_of_some _ z)
  have I2 := I1.laid (t' := tk) keep (Nat.le_succ _) (exo_ok (H := upd H1 (hp.objs.size + 1) (exo (hp.objs.size + 1) C none)) ho)
  have rr : Vals (V.ref (hp.objs.size + 1) :: (vs ++ [])) (Value.ref (hp.objs.size + 1) :: (us ++ [])) := .cons rfl r0
  have len : (Value.ref (hp.objs.size + 1) :: us ++ []).length = ps.length := by
    rw [← F1.len _ _ _ _ want]
    exact rr.length.symm
  have small : us.length ≤ sizeLine := by
    have := Paired.length r1
    rw [sizeLine_eq]
    omega
  refine wpAny_call (PySem.HandSPX.call_own F.excBase_ValueError (fun Y => PySem.HandSPX.refsVE_contains Y bm hbm) (I1.kIn _ _ hC) (PySem.W.looks_findIn I1.kIn iC) (fun self => PySem.W.bind_fn I1.kIn self tI) small ?_)
  refine codeAny_mono (F1.run _ X.stack _ _ _ _ _ _ (fun _ _ _ => False) (hr.make C us []) (I2.env0.make C us []) (hb _ (Value.ref (hp.objs.size + 1) :: us) I2.kIn len) rr want) ?_
  rintro (er | fl) s' done
  · exact hx pins σ _ _ er s' I2 done
  · cases fl with
    | ret u =>
      obtain ⟨v, H2, os2, bare2, un2, hok2, rv, ev, d, fs, ea, ed, hd1, q2⟩ := done
      subst ev
      obtain ⟨h2, g2, d2, t2, os'⟩ := s'
      obtain ⟨t0, G, J, kG, ge, hoe, na⟩ := mk_end0 (d2 := d2) (t2 := t2) I1 (Nat.le_succ _) keep un2 hok2 os2 bare2 ea ed hd1
      exact ⟨rv, hp.objs.size + 1, _, _, ⟨G, g2, d2, t2, os'⟩, _, .ref C, some d, rfl, J, kG, ge, hoe, ⟨rfl, rfl, fun vs hv => by cases hv; rfl⟩, rfl, rfl, na, rfl, bare2, raises_own T.exC T.tyC, q2⟩
    | next => exact False.elim done
    | brk => exact False.elim done
    | cont => exact False.elim done
end
/-! ### how an exception lies, over data -/
/-- the own classes: where each one stands, its fields in their order -/
abbrev Tab := Str → Option (Addr × List Str)
def CXC (K : Fg) (tab : Tab) : XC := fun c ds cls d H => ∃ (C : Addr) (ns : List Str) (dd : Addr) (vs : List V), tab c = some (C, ns) ∧ cls = .ref C ∧ d = some dd ∧ H dd = some (.xd (fieldsOf ns vs)) ∧ ns.length = vs.length ∧ RA K (fun _ => False) H vs ds
/-- raise c(e, ..) -/
def mRaise (c : Str) (ml : ML) : MS := fun s => match ml s with
  | some ds => if flatD.go ds = true ∧ ds.all (fun d => (fmtB d).isSome) = true ∧ ds.length ≤ 20 then .ex c ds else .no
  | none => .no
/-- what is known of an own class and its __init__ -/
structure ExcK (P : Program) (w : World) (K : Fg) (mg : Str → Option Value) (base : Heap) (k : Nat) (x : Str) (C : Addr) (ns : List Str) : Prop where
  oex : OexC K C
  gC : mg x = some (.ref C)
  init : ∃ (fI : Addr) (fd : FuncData), PySem.W.findIn K (.ref C) "__init__" = some (some (.ref fI)) ∧ PySem.W.typeIn K (.ref fI) = some (.type "function") ∧ FnOk P w K mg base CX0 k fI fd ("self" :: ns) (spI K C ns) ∧ Binds K fd ("self" :: ns) []
section
variable {K : Fg} {X : Cx} {E : XK} {ml : ML} {x : Str} {C : Addr} {ns : List Str} {tab : Tab} {k j : Nat} {e : Expr} {es : List Expr} {p pos pos2 : Pos}
theorem s_raise (T : ExcK X.prog X.w X.K X.mg X.base k x C ns) (hK : X.K = K) (ht : tab x = some (C, ns)) (hc : X.calm = true) (hr : Room j X.A) (hk : k + 1 ≤ j) (tk : L2N.Takes X fun cls d _ H => E cls d H) (hg : Gl X x) (hn : ∀ s ds, ml s = some ds → ds.length = ns.length) (ha : XAb K X (e :: es) ml)
    (hdb : (x == ("__debug__" : Str)) = false := by decide) (he : starEach (e :: es) X.env = (false, eval e X.env) :: starEach es X.env := by rfl) (hpl : (backTo pos (starEach es X.env)).any (·.1) = false := by rfl) :
    XS K (CXC K tab) E X (.Raise (some (.Call (.Name x p) (e :: es) [] pos)) none pos2) (mRaise x ml) := by
  subst hK
  obtain ⟨fI, fd, iC, tI, F1, b⟩ := T.init
  refine ps_imp (L2N.ps_raise hc tk (pmk_init T.oex iC tI F1 (hr.mono hk) b pass0 hg T.gC ha hdb he hpl)) fun Dn σ H ⟨H0, G, s, r, q⟩ => ?_
  unfold mRaise at q
  cases hm : ml s with
  | none => rw [hm] at q; exact q.elim
  | some ds =>
    simp only [hm] at q
    by_cases hf : flatD.go ds = true ∧ ds.all (fun d => (fmtB d).isSome) = true ∧ ds.length ≤ 20
    · rw [if_pos hf] at q
      obtain ⟨hf1, hf2, hf3⟩ := hf
      refine ⟨H0, G, s, ds, r, hm, fun vs H1 e1 rv => ⟨by have := rv.length; omega, fun a hna => ?_⟩⟩
      have hl := hn s ds hm
      have hvl : vs.length = ns.length := rv.length.trans hl
      refine ⟨a, vs ++ [], ds, fun _ => True, rfl, by rw [List.append_nil]; exact hvl, ?_, fun d hd => List.all_eq_true.mp hf2 d hd, upd_same, fun d H2 hd ne h1 h2 h3 => ?_⟩
      · rw [List.append_nil]
        exact (rv.ex (Ex.new hna)).wider fun _ _ => trivial
      · rw [upd_ne ne] at hd
        rw [List.append_nil] at h2
        have ex : Ex H1 (upd (del H2 a) d (.xd (fieldsOf ns vs))) := .full fun b o hb => by
          have b1 : b ≠ a := fun z => by rw [z, hna] at hb; cases hb
          have b2 : b ≠ d := fun z => by rw [z, hd] at hb; cases hb
          rw [upd_ne b2, del_ne b1, h3 b b1 b2, upd_ne b1]
          exact hb
        refine ⟨rfl, d, fieldsOf ns vs, h1, h2, hd, q _ _ _ (r.ex.trans (e1.trans ex)) ⟨C, ns, d, vs, ht, rfl, rfl, upd_same, hvl.symm, RA.flat _ _ hf1 (rv.ex ex)⟩⟩
    · rw [if_neg hf] at q
      exact q.elim
end
end DD

/-! # Own exceptions over data: let out of a def, caught, looked at -/
namespace DD
variable [LTb]
open PySem PySem.Spec PyProof.Rows L2
section
variable {P : Program} {w : World} {K : Fg} {mg : Str → Option Value} {base : Heap} {C : XC}
/-- a def that may raise -/
theorem fnX_data {x qual : Str} {st : Stmt} {f : Addr} {fd : FuncData} {N ps : List Str} {k n : Nat} {body : MS} (F : L2.Fun K x qual st f fd) (Sc : FnScope N ps (defScope st)) (hn : ps.length = n) (hN : n ≤ N.length)
    (hb : ∀ (cdv : Value) (A : Around) (outer : List Env) (s : Shared) (H : Hp) (E : XK), Room k (A.deeper (PyProof.Rows.envOfC qual (defScope st) s.heap.objs.size f cdv)) →
      XSs K C E (cxOf (L2N.CX P w) P w K mg base N qual (defScope st) f cdv A outer s H E) (defBody st) body) :
    FnOk P w K mg base (L2N.CX P w) (k + 1) f fd ps (spD K C n (mFn N.length body)) := by
  obtain ⟨oc, od, kV, doc, pm, an, cdv, ct, osl, rfl, lk, hcd⟩ := F.ex
  refine fn_of lk hcd Sc (fun vs H Q E ⟨B, ds, h1, h2, _, _⟩ => by rw [h2.length, h1, hn]) fun A outer s H vs Q E hr ⟨B, ds, h1, h2, ht, h3⟩ => ⟨_, hb cdv A outer s H E hr, H, fun a => B a ∨ H a = none, startS N.length ds, rs_start h2 ht (by omega), ?_⟩
  unfold mFn at h3
  cases ho : body (startS N.length ds) with
  | nx s' => rw [ho] at h3; exact fun σ' H' r t => h3 H' r.ex
  | rt d => rw [ho] at h3; exact fun v H' e r => h3 v H' e r
  | rtl es => rw [ho] at h3; exact fun p xs H' hp e h r => h3 p xs H' hp e h r
  | ex c fs => rw [ho] at h3; exact fun cls d H' e q => h3 cls d H' e q
  | bk s' => rw [ho] at h3; exact h3.elim
  | ct s' => rw [ho] at h3; exact h3.elim
  | no => rw [ho] at h3; exact h3.elim
end
/-! ### try: x = f(..) except .. as e: -/
noncomputable def uniO (F : Addr → Addr → Out) : Out := by
  classical
  exact if ∀ a d, F a d = F 0 0 then F 0 0 else .no
theorem uniO_eq {F : Addr → Addr → Out} {o : Out} (h : ∀ a d, F a d = o) : uniO F = o := by
  unfold uniO
  rw [if_pos fun a d => by rw [h a d, h 0 0]]
  exact h 0 0
theorem uniO_ne {F : Addr → Addr → Out} {o : Out} (h : uniO F = o) (ho : o ≠ .no) (a d : Addr) : F a d = o := by
  unfold uniO at h
  split at h
  · rename_i z
    rw [z a d]
    exact h
  · exact (ho h.symm).elim
/-- the name of the clause goes -/
def clearO (j : Nat) : Out → Out
  | .nx s => if unowned s [j] = true then .nx (s.set j none) else .no
  | .bk _ => .no
  | .ct _ => .no
  | .ex _ _ => .no
  | o => o
def fieldsD (ns : List Str) (ds : List D) : List (Str × D) := (ns.zip ds).reverse
theorem zip_fst {α β : Type} : ∀ {as : List α} {bs : List β}, as.length = bs.length → (as.zip bs).map (·.1) = as
  | [], [], _ => rfl
  | a :: as, b :: bs, h => by
    have := zip_fst (as := as) (bs := bs) (by simpa using h)
    simp [this]
theorem zip_snd {α β : Type} : ∀ {as : List α} {bs : List β}, as.length = bs.length → (as.zip bs).map (·.2) = bs
  | [], [], _ => rfl
  | a :: as, b :: bs, h => by
    have := zip_snd (as := as) (bs := bs) (by simpa using h)
    simp [this]
theorem has_exc {K : Fg} {H : Hp} {a dd : Addr} {ns : List Str} {vs : List V} {ds : List D} (h : H dd = some (.xd (fieldsOf ns vs))) (hl : ns.length = vs.length) (ra : RA K (fun _ => False) H vs ds) : HasK K H (.ref a) (.exc a dd (fieldsD ns ds)) := by
  have hl2 : ns.length = ds.length := hl.trans ra.length
  refine ⟨rfl, fieldsOf ns vs, h, ?_, ?_⟩
  · simp only [fieldsOf, fieldsD, List.map_reverse, zip_fst hl, zip_fst hl2]
  · simp only [fieldsOf, fieldsD, List.map_reverse, zip_snd hl, zip_snd hl2]
    exact ra.reverse
theorem Tr.setK {σ : L2.St} {s : S} {H : Hp} {v : Option V} {kd : Kd} (i : Nat) : Tr σ s H (σ.set i v) (s.set i (some (.kd kd))) H := fun a o h n _ => ⟨h, fun ⟨j, ds, h1, h2⟩ => by
  rcases get_set h1 with ⟨_, z, _⟩ | ⟨hj, h1⟩
  · cases z
  · rcases get_set h2 with ⟨z, _⟩ | ⟨_, h2⟩
    · exact hj z
    · exact n ⟨j, ds, h1, h2⟩⟩
theorem clear_post {K : Fg} {C : XC} {E : XK} {G : Addr → Prop} {H0 H H1 : Hp} {σ σ1 : L2.St} {s s1 : S} {Dn : Ends} {j : Nat} {o : Out} (ho : clearO j o ≠ .no) (h : Post K H0 G C E σ s H Dn (clearO j o)) (t : Tr σ s H σ1 s1 H1) :
    Post K H0 G C0 E0 σ1 s1 H1 { nx := fun σ' H' => Dn.nx (σ'.set j none) H', rt := Dn.rt, bk := fun σ' H' => Dn.bk (σ'.set j none) H', ct := fun σ' H' => Dn.ct (σ'.set j none) H' } o := by
  cases o with
  | nx s2 =>
    by_cases hun : unowned s2 [j] = true
    · have e : clearO j (.nx s2) = .nx (s2.set j none) := if_pos hun
      rw [e] at h
      intro σ3 H3 r3 t3
      obtain ⟨f1, f2⟩ := r3.forget fun es => unowned_at hun List.mem_cons_self es
      exact h _ _ f1 ((t.trans t3).trans fun b o hb nb _ => ⟨hb, fun ow => nb ((f2 b).mp ow)⟩)
    · exact (ho (if_neg hun)).elim
  | rt d => exact h
  | rtl ds => exact h
  | bk s2 => exact (ho rfl).elim
  | ct s2 => exact (ho rfl).elim
  | ex c fs => exact (ho rfl).elim
  | no => exact (ho rfl).elim
/-- the value that x gets -/
def callR : Out → Option D
  | .nx _ => some .none
  | .rt d => guard flatD d
  | .rtl es => if flatD.go es = true then some (.list es) else none
  | _ => none
noncomputable def mTry1 (i j n : Nat) (f : MF) (ml : ML) (names : Str → List Str) (hit : Str → Bool) (ms : Str → Addr → Addr → MS) : MS := fun s => match ml s with
  | none => .no
  | some ds => if ds.length = n then (match f ds with
    | .ex c fs => if hit c = true then uniO fun a dd => clearO j (ms c a dd (s.set j (some (.kd (.exc a dd (fieldsD (names c) fs)))))) else .no
    | o => match callR o with
      | some d => .nx (s.set i (some (.sh d)))
      | none => .no) else .no
theorem passN {X : Cx} {W : WX} (tk : L2N.Takes X W) (σ : L2.St) : PassesAt (L2N.CX X.prog X.w) X σ (WE W σ) := fun _ _ _ e s' I c => tk e s' (L2N.XE.of_call I (fun _ _ _ h => h) c)
theorem takesN0 {X : Cx} : L2N.Takes X (fun _ _ _ _ => False) := fun _ _ ⟨_, _, _, _, _, _, _, _, _, _, _, _, _, _, _, _, w⟩ => w.elim
section
variable {K : Fg} {X : Cx} {C : XC} {E : XK} {ml : ML} {x cx nm : Str} {tab : Tab} {k k' n i j : Nat} {f : MF} {e : Expr} {es : List Expr} {p np pos pos' : Pos} {st b₀ : Stmt} {suite : List Stmt} {names : Str → List Str} {hit : Str → Bool} {ms : Str → Addr → Addr → MS} {cv : Value}
/-- f(..), what it raises is wished for at the slots -/
theorem call_at {X : Cx} {W : WX} {C : XC} (c : Cal X.prog X.w X.K X.mg X.base (L2N.CX X.prog X.w) C k x n f) (tk : L2N.Takes X W) (hr : Room k' X.A) (hk : k ≤ k') (hg : Gl X x) (ha : XAb X.K X (e :: es) ml) (hdb : (x == ("__debug__" : Str)) = false := by decide)
    (he : starEach (e :: es) X.env = (false, eval e X.env) :: starEach es X.env := by rfl) (hpl : (backTo p (starEach es X.env)).any (·.1) = false := by rfl) : PE X (.Call (.Name x np) (e :: es) [] p) (tCallSD (spD X.K C n f) [] (WE W) (tAb X.K ml)) := by
  obtain ⟨g, fd, ps, F, hm, hkp, hb⟩ := c.ex
  exact pe_callSD (F.mono hk) hr hg hm hkp hb .nil (fun σ => passN tk σ) ha hdb he hpl
theorem s_try1 (hK : X.K = K) (hs : X.stack = X.env :: X.outer) (hf : X.env.frame = some X.env.locals) (hN : X.N.Nodup) (hj : X.N[j]? = some nm) (hln : X.env.kindOf nm = some .local) (hc : Names X cx cv)
    (hset : ∀ (W : WX) (pn : List (Addr × Obj)) (xe : Value → Shared → Prop), L2N.Takes (X.tr pn xe) W → PS (X.tr pn xe) st (tAsg (tCallSD (spD K (CXC K tab) n f) [] (WE W) (tAb K ml)) (gName i)))
    (hex : ∀ c C ns, tab c = some (C, ns) → hit c = true → PySem.W.exmOne K (.ref C) cv = some true ∧ ns = names c)
    (hsu : ∀ (c : Str) (Ca a dd : Addr) (ns : List Str) (oe : Obj) (pn : List (Addr × Obj)), tab c = some (Ca, ns) → hit c = true → L2N.Zn (.ref Ca) (some dd) oe → (∃ vs, oe.data = .fields vs) → XSs K C0 E0 (X.suite a ((a, oe) :: pn)) (b₀ :: suite) (ms c a dd)) :
    XS K C E X (.Try [st] [.ExceptHandler (some (.Name cx np)) (some nm) (b₀ :: suite) pos'] [] [] pos) (mTry1 i j n f ml names hit ms) := by
  subst hK
  refine ps_imp (L2N.ps_try_as (i := j) (Wout := fun _ _ _ _ => False) (tb := fun W => tAsg (tCallSD (spD X.K (CXC X.K tab) n f) [] (WE W) (tAb X.K ml)) (gName i))
    (ts := fun a cls d Dn σ H => ∃ c C ns dd, cls = .ref C ∧ d = some dd ∧ tab c = some (C, ns) ∧ hit c = true ∧ sD X.K C0 E0 (ms c a dd) Dn σ H) hs hf hN hj hln hc takesN0 (fun W pn xe tk _ => pss_one (hset W pn xe tk)) ?_) ?_
  · intro a oe cls d pn hz hfl
    refine ⟨fun pins s σ H Dn I h => ?_⟩
    obtain ⟨c, C, ns, dd, rfl, rfl, h1, h2, h3⟩ := h
    exact (hsu c C a dd ns oe pn h1 h2 hz hfl).run pins s σ H Dn I h3
  · intro Dn σ H ⟨H0, G, s, r, q⟩
    unfold mTry1 at q
    cases hm : ml s with
    | none => rw [hm] at q; exact q.elim
    | some ds =>
      simp only [hm] at q
      by_cases hn : ds.length = n
      · rw [if_pos hn] at q
        refine ⟨H0, G, s, ds, r, hm, fun vs H1 e1 rv => ⟨fun _ => True, ds, hn, by rw [List.append_nil]; exact rv, e1.tb r.tb, ?_⟩⟩
        have r1 := r.mono e1
        have norm : ∀ {o : Out} {d : D}, callR o = some d → Post X.K H0 G C E σ s H Dn (match callR o with
            | some d => .nx (s.set i (some (.sh d)))
            | none => .no) → ∀ v H2, Ex H1 H2 → R X.K (Cl G σ s) H2 v d → Dn.nx (σ.set i (some v)) H2 := fun {o d} ho hq v H2 e2 hv => by
          rw [ho] at hq
          exact hq _ H2 ((r1.mono e2).set i hv) ((Tr.set (H := H2) i).ex (e1.trans e2))
        cases ho : f ds with
        | nx s' =>
          rw [ho] at q
          exact fun H2 e2 => norm (o := .nx s') rfl q _ H2 e2 .non
        | rt d =>
          rw [ho] at q
          dsimp only at q
          cases hcr : callR (.rt d) with
          | none => rw [hcr] at q; exact q.elim
          | some d' =>
            have hcr' := hcr
            obtain ⟨hfd, e⟩ := if_some (show (if flatD d = true then some d else none) = some d' from hcr')
            cases e
            exact fun v H2 e2 hv => norm (o := .rt d) hcr q _ H2 e2 (R.flat _ _ hfd hv)
        | rtl es =>
          rw [ho] at q
          dsimp only at q
          cases hcr : callR (.rtl es) with
          | none => rw [hcr] at q; exact q.elim
          | some d' =>
            have hcr' := hcr
            obtain ⟨hfd, e⟩ := if_some (show (if flatD.go es = true then some (PyData.list es) else none) = some d' from hcr')
            cases e
            exact fun p xs H2 hp e2 h2 ra => norm (o := .rtl es) hcr q _ H2 e2 (.lst (.inl ⟨⟨r1.new p hp, r1.own_not hp⟩, .inl h2⟩) (RA.flat _ _ hfd ra))
        | ex c fs =>
          rw [ho] at q
          dsimp only at q
          by_cases hh : hit c = true
          · rw [if_pos hh] at q
            rintro cls d H2 e2 ⟨Ca, ns, dd, us, ht, rfl, rfl, hd, hl, ra⟩
            obtain ⟨x1, x2⟩ := hex c Ca ns ht hh
            refine ⟨true, x1, fun _ a na => ⟨c, Ca, ns, dd, rfl, rfl, ht, hh, H0, G, _, (r1.mono e2).setS j (has_exc (a := a) hd hl ra), ?_⟩, fun z => nomatch z⟩
            rw [x2]
            have tr : Tr σ s H (σ.set j (some (V.ref a))) (s.set j (some (.kd (.exc a dd (fieldsD (names c) fs))))) H2 := (Tr.setK (H := H2) j).ex (e1.trans e2)
            generalize hu : (uniO fun a dd => clearO j (ms c a dd (s.set j (some (.kd (.exc a dd (fieldsD (names c) fs))))))) = o at q
            by_cases hno : o = .no
            · rw [hno] at q; exact q.elim
            · have h5 := uniO_ne hu hno a dd
              exact clear_post (by rw [h5]; exact hno) (by rw [h5]; exact q) tr
          · rw [if_neg hh] at q
            exact q.elim
        | bk s' => rw [ho] at q; exact q.elim
        | ct s' => rw [ho] at q; exact q.elim
        | no => rw [ho] at q; exact q.elim
      · rw [if_neg hn] at q
        exact q.elim
end
end DD

/-! # Within an except suite: the exception looked at, defs called -/
namespace DD
variable [LTb]
open PySem PySem.Spec PyProof.Rows L2 L2H
/-- what an own class must say for its instances to be read and asked -/
structure ExcR (K : Fg) (C : Addr) : Prop where
  xf : XfC K C
  isC : (PySem.W.clsIn K C).isSome = true
  ha : PySem.W.findIn K (.ref C) "__class__" = some (some (.builtin "object.__class__"))
  hn : PySem.W.specialIn K (.builtin "object.__class__") "__get__" = some (some (.builtin "getset_descriptor.__get__"))
  ht : PySem.W.takesIn K (.builtin "object.__class__") = some true
  hm : PySem.W.mroIn K C (.type "object") = some true
/-- isinstance(e, c) of the exception at a, its dict at dd -/
def rIsX (K : Fg) (C a dd : Addr) : List V → Hp → VK → Prop := fun xs H Q => ∃ (c : V) (cv : Value) (b : Bool) (fs : List (Str × V)), xs = [.ref a, c] ∧ (∀ u, RelV c u → u = cv) ∧ PySem.W.kitOne K (.ref C) cv = some b ∧ H dd = some (.xd fs) ∧ Q (.bl b) H
section
variable {X : Cx} {a dd C : Addr} {oe : Obj} {pn : List (Addr × Obj)}
theorem call_isX (T : ExcR X.K C) (hz : L2N.Zn (.ref C) (some dd) oe) (hf : ∃ vs, oe.data = .fields vs) : CallR (X.suite a ((a, oe) :: pn)) (.builtin "isinstance") (rIsX X.K C a dd) := by
  rintro pins s σ H xs us Q I r ⟨c, cv, b, fs, rfl, hcv, e, hdd, q⟩
  obtain ⟨u1, u2, rfl, r1, r2⟩ := vals2 r
  cases (show u1 = Value.ref a from r1)
  have ec := hcv _ r2
  subst ec
  obtain ⟨hget, _⟩ := I.pin (a, oe) (List.mem_append_left _ List.mem_cons_self)
  obtain ⟨vs, hv⟩ := hf
  have hx : ObjOk X.prog X.w H s.heap dd (.xd fs) := I.hok dd _ hdd
  obtain ⟨mA, hns, _⟩ := hx
  obtain ⟨od, ho, _⟩ := lookIn_ns hns
  have J : PySem.W.InstAt s.heap a oe C (some od) := ⟨hget, hz.1, by unfold PySem.W.notCls; rw [hv] <;> rfl, by rw [hz.2.1]; exact ho⟩
  exact PySem.W.kia_one (PySem.W.kitx_exc (gt := none) T.isC T.xf.ga T.xf.gg T.xf.exC T.ha T.hn T.ht T.hm) I.kIn J e (fun z => nomatch z) fun tk => ⟨.bl b, H, I.tok tk, rfl, q⟩
end
def mIsE (a dd : Addr) (j : Nat) (b : Bool) : M := fun s => match s[j]? with
  | some (some (.kd (.exc a' d' _))) => if a' = a ∧ d' = dd then some (.bool b) else none
  | _ => none
def mXf (a dd : Addr) (j : Nat) (n : Str) : M := fun s => match s[j]? with
  | some (some (.kd (.exc a' d' fs))) => if a' = a ∧ d' = dd then fs.lookup n else none
  | _ => none
theorem xd_look {K : Fg} {B : Addr → Prop} {H : Hp} {n : Str} {d : D} : ∀ {vs : List (Str × V)} {fs : List (Str × D)}, vs.map (·.1) = fs.map (·.1) → RA K B H (vs.map (·.2)) (fs.map (·.2)) → fs.lookup n = some d → ∃ v, vs.lookup n = some v ∧ R K B H v d
  | [], [], _, _, h => by cases h
  | [], _ :: _, z, _, _ => by cases z
  | _ :: _, [], z, _, _ => by cases z
  | (k, v) :: vs, (k', d') :: fs, z, r, h => by
    simp only [List.map_cons, List.cons.injEq] at z
    obtain ⟨rfl, z⟩ := z
    simp only [List.map_cons] at r
    cases r with
    | cons r1 r2 =>
      rw [List.lookup_cons] at h ⊢
      split at h
      · rename_i e
        cases h
        exact ⟨v, rfl, r1⟩
      · exact xd_look z r2 h
section
variable {K : Fg} {X : Cx} {a dd C : Addr} {oe : Obj} {pn : List (Addr × Obj)} {j : Nat} {ea eb : Expr} {p pos : Pos} {n : Str} {c : V} {cv : Value} {b : Bool}
theorem x_isE (T : ExcR X.K C) (hz : L2N.Zn (.ref C) (some dd) oe) (hf : ∃ vs, oe.data = .fields vs) (hK : X.K = K) (hg : Gl X "isinstance") (hm : X.mg "isinstance" = none) (ha : PE (X.suite a ((a, oe) :: pn)) ea (tVar j)) (hb : PE (X.suite a ((a, oe) :: pn)) eb (tC c)) (hcv : ∀ u, RelV c u → u = cv) (hk : PySem.W.kitOne X.K (.ref C) cv = some b)
    (he : starEach [ea, eb] X.env = (false, eval ea X.env) :: starEach [eb] X.env := by rfl) (hpl : (backTo pos (starEach [eb] X.env)).any (·.1) = false := by rfl) (hb2 : starEach [eb] X.env = (false, eval eb X.env) :: starEach [] X.env := by rfl) :
    XE K (X.suite a ((a, oe) :: pn)) (.Call (.Name "isinstance" p) [ea, eb] [] pos) (mIsE a dd j b) := by
  subst hK
  refine pe_imp (pe_callB (call_isX T hz hf) hg hm (by decide +kernel) (pa_cons ha (pa_cons hb pa_nil hb2) he) (by decide) (by decide) he hpl) fun σ H Q ⟨H0, G, s, d, r, e, q⟩ => ?_
  unfold mIsE at e
  split at e
  · rename_i a' d' fs hj
    obtain ⟨⟨z1, z2⟩, e'⟩ := if_some e
    subst z1 z2
    cases e'
    obtain ⟨v, h1, rfl, vs, h2, _⟩ := r.st j _ hj
    exact ⟨_, h1, c, cv, b, vs, rfl, hcv, hk, h2, q _ H (Ex.refl _) (.bl b)⟩
  · cases e
theorem x_xf (T : XfC X.K C) (hno : PySem.W.findIn X.K (.ref C) n = some none) (hz : L2N.Zn (.ref C) (some dd) oe) (hf : ∃ vs, oe.data = .fields vs) (hK : X.K = K) (ha : PE (X.suite a ((a, oe) :: pn)) ea (tVar j)) (hb : attributeBase ea n X.env (eval ea X.env) = eval ea X.env := by rfl) :
    XE K (X.suite a ((a, oe) :: pn)) (.Attribute ea n pos) (mXf a dd j n) := by
  subst hK
  refine pe_imp (pe_xf T hno hz.zc hf ha hb) fun σ H Q ⟨H0, G, s, d, r, e, q⟩ => ?_
  unfold mXf at e
  split at e
  · rename_i a' d' fs hj
    obtain ⟨⟨z1, z2⟩, e'⟩ := if_some e
    subst z1 z2
    obtain ⟨v, h1, rfl, vs, h2, h3, h4⟩ := r.st j _ hj
    obtain ⟨u, l1, l2⟩ := xd_look h3 h4 e'
    exact ⟨_, h1, rfl, rfl, d', vs, u, rfl, h2, l1, q _ H (Ex.refl _) (l2.wider fun _ z => z.elim)⟩
  · cases e
end
/-! ### defs there -/
structure CalH (P : Program) (w : World) (K : Fg) (mg : Str → Option Value) (base : Heap) (C : XC) (k : Nat) (x : Str) (n : Nat) (m : MF) : Prop where
  ex : ∃ f fd ps, FnH P w K mg base CX0 k f fd ps (spD K C n m) ∧ mg x = some (.ref f) ∧ PySem.W.keepIn K (.ref f) = true ∧ Binds K fd ps []
theorem calH_of {P : Program} {w : World} {K : Fg} {mg : Str → Option Value} {base : Heap} {C : XC} {k n : Nat} {x : Str} {m : MF} {f : Addr} {fd : FuncData} {ps : List Str} (F : FnH P w K mg base CX0 k f fd ps (spD K C n m)) (hm : mg x = some (.ref f)) (hk : PySem.W.keepIn K (.ref f) = true) (hb : Binds K fd ps []) : CalH P w K mg base C k x n m := ⟨f, fd, ps, F, hm, hk, hb⟩
theorem FnH.mono' {P : Program} {w : World} {K : Fg} {mg : Str → Option Value} {base : Heap} {CX : CXT} {j k : Nat} {f : Addr} {fd : FuncData} {ps : List Str} {sp : Sp} (F : FnH P w K mg base CX j f fd ps sp) (h : j ≤ k) : FnH P w K mg base CX k f fd ps sp :=
  ⟨F.len, fun A outer s H args us vs Q E q hr => F.run A outer s H args us vs Q E q (hr.mono h)⟩
theorem fnH_data {P : Program} {w : World} {K : Fg} {mg : Str → Option Value} {base : Heap} {C : XC} {x qual : Str} {st : Stmt} {f : Addr} {fd : FuncData} {N ps : List Str} {k n : Nat} {body : MS} (F : L2.Fun K x qual st f fd) (Sc : FnScope N ps (defScope st)) (hn : ps.length = n) (hN : n ≤ N.length)
    (hb : ∀ (cdv : Value) (A : Around) (outer : List Env) (s : Shared) (H : Hp) (E : XK) (q : Addr × Obj), Hot1 A q → RoomH k (A.deeper (PyProof.Rows.envOfC qual (defScope st) s.heap.objs.size f cdv)) →
      XSs K C E (cxH CX0 P w K mg base N qual (defScope st) f cdv A outer s H E q) (defBody st) body) :
    FnH P w K mg base CX0 (k + 1) f fd ps (spD K C n (mFn N.length body)) := by
  obtain ⟨oc, od, kV, doc, pm, an, cdv, ct, osl, rfl, lk, hcd⟩ := F.ex
  refine fn_ofH lk hcd Sc (fun vs H Q E ⟨B, ds, h1, h2, _, _⟩ => by rw [h2.length, h1, hn]) fun A outer s H vs Q E q hot hr ⟨B, ds, h1, h2, ht, h3⟩ => ⟨_, hb cdv A outer s H E q hot hr, H, fun a => B a ∨ H a = none, startS N.length ds, rs_start h2 ht (by omega), ?_⟩
  unfold mFn at h3
  cases ho : body (startS N.length ds) with
  | nx s' => rw [ho] at h3; exact fun σ' H' r t => h3 H' r.ex
  | rt d => rw [ho] at h3; exact fun v H' e r => h3 v H' e r
  | rtl es => rw [ho] at h3; exact fun p xs H' hp e h r => h3 p xs H' hp e h r
  | ex c fs => rw [ho] at h3; exact fun cls d H' e q => h3 cls d H' e q
  | bk s' => rw [ho] at h3; exact h3.elim
  | ct s' => rw [ho] at h3; exact h3.elim
  | no => rw [ho] at h3; exact h3.elim
section
variable {K : Fg} {X : Cx} {C : XC} {ml : ML} {x : Str} {k k' n : Nat} {f : MF} {e : Expr} {es : List Expr} {p pos : Pos}
theorem x_callH (c : CalH X.prog X.w K X.mg X.base C k x n f) (hr : RoomH k' X.A) (hk : k ≤ k') (hc : HotC X) (hK : X.K = K) (hg : Gl X x) (ha : XAb K X (e :: es) ml) (hdb : (x == ("__debug__" : Str)) = false := by decide)
    (he : starEach (e :: es) X.env = (false, eval e X.env) :: starEach es X.env := by rfl) (hpl : (backTo pos (starEach es X.env)).any (·.1) = false := by rfl) : XE K X (.Call (.Name x p) (e :: es) [] pos) (mCallB n f ml) := by
  subst hK
  obtain ⟨g, fd, ps, F, hm, hkp, hb⟩ := c.ex
  refine pe_imp (pe_callH (E := fun _ _ _ _ => False) (FnH.mono' F hk) hr hc hg hm hkp hb (fun σ pins H s e s' I z => z.elim) ha hdb he hpl) fun σ H Q h => ?_
  have h2 : tCall (spD X.K C n f) [] (fun _ _ _ => False) (tAb X.K ml) σ H Q := rdCallB h
  obtain ⟨H0, G, s, ds, r, e1, q⟩ := h2
  refine ⟨H0, G, s, ds, r, e1, fun vs H1 e2 rv => ?_⟩
  have h3 : spD X.K C n f (vs ++ []) H1 Q fun _ _ _ => False := q vs H1 e2 rv
  rw [List.append_nil] at h3
  exact h3
end
theorem hotS {X : Cx} {a : Addr} {oe : Obj} {pn : List (Addr × Obj)} {cls : Value} {d : Option Addr} (hz : L2N.Zn cls d oe) (hf : ∃ vs, oe.data = .fields vs) : HotC (X.suite a ((a, oe) :: pn)) := by
  obtain ⟨vs, hv⟩ := hf
  exact ⟨(a, oe), ⟨rfl, vs, hv, hz.2.2 vs hv⟩, List.mem_cons_self⟩
theorem hotF {CX : CXT} {P : Program} {w : World} {K : Fg} {mg : Str → Option Value} {base : Heap} {N : List Str} {qual : Str} {sc : Scope} {f : Addr} {cd : Value} {A : Around} {outer : List Env} {s : Shared} {H : Hp} {E : XK} {q : Addr × Obj} (h : Hot1 A q) : HotC (cxH CX P w K mg base N qual sc f cd A outer s H E q) :=
  ⟨q, ⟨h.1, h.2⟩, List.mem_cons_self⟩
/-! ### == of whole numbers, without a word on room -/
def fEqI : D → D → Option D
  | .int i, .int j => some (.bool (decide (i = j)))
  | _, _ => none
section
variable {K : Fg} {X : Cx} {a b : Expr} {ma mb : M} {pos : Pos}
theorem x_eqI (ha : XB K X a ma) (hb : XB K X b mb) : XE K X (.Compare a [.Eq] [b] pos) (m2 fEqI ma mb) := by
  refine x_cmp op_eq ?_ ha hb (nomark _)
  intro H x y d e z hx hy h
  unfold fEqI at h
  split at h
  · cases h
    cases hx; cases hy
    rename_i i j
    refine ⟨.bl (decide (i = j)), .bl _, fun Q q => ?_⟩
    refine ⟨by trivial, ?_⟩
    rw [show decide (V.int i = V.int j) = decide (i = j) by simp]
    exact q
  · cases h
end
end DD

/-! # Pairs walked, texts, tuples turned, a table of the written part -/
namespace DD
variable [LTb]
open PySem PySem.Spec PyProof.Rows L2
section
variable {K : Fg} {X : Cx} {C : XC} {E : XK} {H0 H H' H1 H2 : Hp} {G B : Addr → Prop} {σ : L2.St} {s : S} {tg e a b : Expr} {m ma mb : M} {ml : ML} {pos p p2 : Pos} {es : List Expr}
/-! ### items that stand in pairs made anew -/
def RP (K : Fg) : Rl := fun B H v d => ∃ (t : Addr) (xs : List V) (ds : List D), v = .ref t ∧ d = .tuple ds ∧ SqT K H t xs ∧ RA K B H xs ds
theorem wideP (K : Fg) : Wide (RP K) := ⟨fun _ _ _ _ _ h ⟨t, xs, ds, h1, h2, h3, h4⟩ => ⟨t, xs, ds, h1, h2, h3, h4.wider h⟩⟩
theorem g_seqP {ts : List Nat} {k n : Nat} {g : MGs} (hK : X.K = K) (hc : X.calm = true) (h : XGs K X es ts g) (hn : (assignEach es X.env).length = n := by rfl) (hst : (assignEach es X.env).findIdx? (·.1) = none := by rfl) : PG X (.Tuple es k pos) (gDr (RP K) K ts (gSeq n g)) := by
  subst hK
  refine ⟨fun pins s σ H v u Q I r ⟨H0, G, sd, d, s', rs, ⟨t, xs, ds, e1, e2, hq, ra⟩, e0, q⟩ => ?_⟩
  subst e1 e2
  obtain ⟨ds', ed, e1⟩ := some_bind e0
  cases ed
  obtain ⟨hl, e2⟩ := if_some e1
  exact (pg_tup hc h hn hst).run pins s σ H _ u Q I r ⟨_, _, rfl, hq, ra.length.trans hl, H0, G, sd, _, s', rs, ra, e2, q⟩
theorem l_lcP {elt iter : Expr} {ifs : List Expr} {scope : Scope} {own : List (Str × Nat)} {mi : ML} {g : MG} {ts : List Nat} {mt : MB} {me : M} (hc : X.calm = true) (hN : X.N.Nodup) (hi : PI X tg iter (iDr (RP K) K mi)) (ok : BlkOk X.N X.env.scope scope own)
    (hg : ∀ (s : Shared) (H : Hp) (C : Addr) (cl : List (Str × Addr)) (fp : List Addr), PG (X.blk s H scope (compEnvC scope cl C X.env) fp) tg (gDr (RP K) K ts g)) (ht : ∀ (s : Shared) (H : Hp) (C : Addr) (cl : List (Str × Addr)) (fp : List Addr), XTs K (X.blk s H scope (compEnvC scope cl C X.env) fp) ifs mt)
    (he : ∀ (s : Shared) (H : Hp) (C : Addr) (cl : List (Str × Addr)) (fp : List Addr), XE K (X.blk s H scope (compEnvC scope cl C X.env) fp) elt me) (hts : ∀ t ∈ ts, t ∈ own.map (·.2)) (hs : ∀ x, foldedSetIterable iter X.env x = pure x := by intro _; rfl) :
    XL K X (.ListComp elt [⟨tg, iter, ifs, 0⟩] scope pos) (mLc mi g mt me (own.map (·.2))) := pe_imp (pe_lc hc hN hi ok hg ht he hs) fun _ _ _ h => rdLcR (wideP K) hts h
/-- zip(x, y) of two lists, or of two tuples -/
def zipD : List D → List D → List D
  | d :: ds, e :: es => .tuple [d, e] :: zipD ds es
  | _, _ => []
theorem zipD_get : ∀ {ds es : List D} {i : Nat} {d : D}, (zipD ds es)[i]? = some d → ∃ x y, ds[i]? = some x ∧ es[i]? = some y ∧ d = .tuple [x, y]
  | [], _, i, d, h => by cases h
  | _ :: _, [], i, d, h => by cases h
  | x :: ds, y :: es, 0, d, h => by cases h; exact ⟨x, y, rfl, rfl, rfl⟩
  | x :: ds, y :: es, i + 1, d, h => zipD_get (ds := ds) (es := es) (i := i) h
theorem zipD_len : ∀ {ds es : List D}, ds.length ≤ (zipD ds es).length ∨ es.length ≤ (zipD ds es).length
  | [], _ => .inl (Nat.zero_le _)
  | _ :: _, [] => .inr (Nat.zero_le _)
  | _ :: ds, _ :: es => by
    simp only [zipD, List.length_cons]
    rcases zipD_len (ds := ds) (es := es) with h | h
    · exact .inl (by omega)
    · exact .inr (by omega)
def iZipTD (ml : ML) : ML := fun s => (ml s).bind fun ds => match ds with
  | [.tuple xs, .tuple ys] => some (zipD xs ys)
  | _ => none
theorem pair_new {K : Fg} {H : Hp} {T : Addr} {x y : V} {d e : D} {B : Addr → Prop} (hT : H T = none) (hx : R K B H x d) (hy : R K B H y e) : RP K B (upd H T (.tup [x, y])) (.ref T) (.tuple [d, e]) :=
  ⟨T, [x, y], [d, e], rfl, rfl, .inl (.inl upd_same), .cons (hx.ex (Ex.new hT)) (.cons (hy.ex (Ex.new hT)) .nil)⟩
theorem i_zipT {elts : List Expr} {kk : Nat} {tpos : Pos} (hK : X.K = K) (hg : Gl X "zip") (hm : X.mg "zip" = none) (ha : XA K X [a, b] ml) (hs : starEach [a, b] X.env = (false, eval a X.env) :: starEach [b] X.env := by rfl) (hpl : (backTo pos (starEach [b] X.env)).any (·.1) = false := by rfl) :
    PI X (.Tuple elts kk tpos) (.Call (.Name "zip" p) [a, b] [] pos) (iDr (RP K) K (iZipTD ml)) := by
  subst hK
  refine ⟨fun pins s σ H Rr I ⟨H0, G, sd, ds, r, e0, q⟩ => (RZ.pi_zipA hg hm ha hs hpl).run pins s σ H Rr I ?_⟩
  obtain ⟨es, ee, e3⟩ := some_bind e0
  clear e0
  refine ⟨H0, G, sd, es, r, ee, fun vs H1 e2 rv => ?_⟩
  split at e3
  · cases e3
    rename_i xs ys
    obtain ⟨v, u, rfl, r1, r2⟩ := rv.two
    cases r1 with
    | tup t1 a1 =>
      rename_i ta tx
      cases r2 with
      | tup t2 a2 =>
        rename_i tb ty
        have st1 : ∀ H2, Kp G σ sd H1 H2 → SqT X.K H2 ta tx := fun H2 k => (k.sqt (r.mono e2) t1).sqt
        have st2 : ∀ H2, Kp G σ sd H1 H2 → SqT X.K H2 tb ty := fun H2 k => (k.sqt (r.mono e2) t2).sqt
        refine ⟨ta, tb, tx, ty, rfl, .inr ⟨t1.sqt, t2.sqt, q _ H1 e2 ⟨fun i d H2 hd k => ?_, fun i d H2 x H3 hd k y => ?_, fun H2 k => ⟨tx, ty, st1 H2 k, st2 H2 k, ?_⟩⟩⟩⟩
        · obtain ⟨x, y, hx, hy, _⟩ := zipD_get hd
          obtain ⟨v, hv, _⟩ := a1.get hx
          obtain ⟨u, hu, _⟩ := a2.get hy
          exact ⟨tx, ty, v, u, st1 H2 k, st2 H2 k, hv, hu⟩
        · obtain ⟨T, v, u, rfl, hT, rfl, h1, h2⟩ := y
          obtain ⟨x, y, hx, hy, rfl⟩ := zipD_get hd
          obtain ⟨v', hv, rv⟩ := a1.get hx
          obtain ⟨u', hu, ru⟩ := a2.get hy
          have w1 := h1 tx (st1 _ k)
          have w2 := h2 ty (st2 _ k)
          rw [hv] at w1; cases w1
          rw [hu] at w2; cases w2
          exact ⟨Ex.new hT, pair_new hT (R.kp (r.mono e2) k rv) (R.kp (r.mono e2) k ru)⟩
        · rw [a1.length, a2.length]
          exact zipD_len
  · cases e3

/-! ### texts -/
def strsD : List D → Option (List Str)
  | [] => some []
  | .str x :: r => (strsD r).map (x :: ·)
  | _ => none
theorem RA.strsD : ∀ {ds : List D} {vs : List V} {ys : List Str}, RA K B H vs ds → strsD ds = some ys → vs = ys.map V.str
  | [], _, _, .nil, h => by cases h; rfl
  | d :: ds, _, ys, .cons h1 h2, h => by
    unfold DD.strsD at h
    split at h
    · rename_i z; cases z
    · rename_i x r z
      cases z
      obtain ⟨ys', h3, rfl⟩ := opt_map h
      cases h1
      rw [RA.strsD h2 h3]
      rfl
    · cases h
/-- '..'.join(x) -/
def mJoin (sep : Str) (m : M) : M := fun s => (m s).bind fun d => (items d).bind fun ds => (strsD ds).bind fun ys => if (ys.map (·.length)).sum + ys.length * sep.length ≤ 100000 ∧ (PyData.str (Txt.join sep ys)).canLay0 = true then some (.str (Txt.join sep ys)) else none
theorem x_join {sep : Str} {k1 : Nat} {p1 apos : Pos} (hK : X.K = K) (ha : XB K X e m) (hs : starEach [e] X.env = [(false, eval e X.env)] := by rfl) (hbase : attributeBase (.Constant (.str sep) k1 p1) "join" X.env (eval (.Constant (.str sep) k1 p1) X.env) = eval (.Constant (.str sep) k1 p1) X.env := by rfl) (hline : (apos.endLine == pos.line) = true := by rfl) :
    XE K X (.Call (.Attribute (.Constant (.str sep) k1 p1) "join" apos) [e] [] pos) (mJoin sep m) := by
  subst hK
  refine pe_imp (pe_join pe_str ha hs hbase hline) fun σ H Q ⟨H0, G, s, d, rs, e0, q⟩ => ?_
  obtain ⟨x, ex, e1⟩ := some_bind e0
  obtain ⟨ds, ed, e2⟩ := some_bind e1
  obtain ⟨ys, ey, e3⟩ := some_bind e2
  obtain ⟨⟨hz, hcl⟩, e4⟩ := if_some e3
  cases e4
  refine ⟨⟨sep, rfl⟩, H0, G, s, x, rs, ex, fun v H1 h1 rv => ?_⟩
  have big : 100000 ≤ 16777216 := by decide
  unfold items at ed
  split at ed
  · cases ed
    obtain ⟨p, xs, rfl, hr, ra⟩ := RB.items rs h1 rv
    have := RA.strsD ra ey
    subst this
    exact ⟨sep, p, ys, rfl, rfl, .inl hr, Nat.le_trans hz big, q _ H1 h1 (.str hcl)⟩
  · cases ed
    obtain ⟨p, xs, rfl, hr, ra⟩ := RB.itemsT rv
    have := RA.strsD ra ey
    subst this
    exact ⟨sep, p, ys, rfl, rfl, .inr hr.sqt, Nat.le_trans hz big, q _ H1 h1 (.str hcl)⟩
  · cases ed
/-- for c in a text -/
def charsD (x : Str) : List D := x.cps.toList.map fun c => .str ⟨#[c]⟩
def layC (c : Nat) : Bool := (PyData.str ⟨#[c]⟩).canLay0
def iStrD (m : M) : ML := fun s => (m s).bind fun d => match d with
  | .str x => if x.cps.toList.all layC = true then some (charsD x) else none
  | _ => none
theorem i_str (hK : X.K = K) (h : XB K X e m) : XI K X tg e (iStrD m) := by
  subst hK
  refine ⟨fun pins s σ H Rr I ⟨H0, G, sd, ds, r, e1, q⟩ => ?_⟩
  obtain ⟨d, ed, e2⟩ := some_bind e1
  split at e2
  · rename_i x
    obtain ⟨hl, e3⟩ := if_some e2
    cases e3
    refine (pi_str h).run pins s σ H Rr I ⟨H0, G, sd, _, r, ed, fun v H1 h1 rv => ?_⟩
    cases rv.plain (fun _ h => nomatch h)
    refine ⟨x, rfl, q _ H1 h1 ⟨fun i d H2 hd k => ?_, fun i d H2 v H3 hd k y => ?_, fun H2 k => ?_⟩⟩
    · obtain ⟨hi, _⟩ := List.getElem?_eq_some_iff.mp hd
      have : i < x.cps.size := by simpa [charsD] using hi
      exact this
    · obtain ⟨rfl, c, hc, rfl⟩ := y
      unfold charsD at hd
      rw [List.getElem?_map, Array.getElem?_toList, hc] at hd
      cases hd
      refine ⟨Ex.refl _, .str ?_⟩
      exact List.all_eq_true.mp hl c (List.mem_of_getElem? (by rw [Array.getElem?_toList]; exact hc))
    · show x.cps.size ≤ (charsD x).length
      simp [charsD]
  · cases e2
/-- a sign in a text -/
def fInS (n : Bool) : D → D → Option D
  | .str x, .str y => match x.cps.toList with
    | [c] => some (.bool (if n then !decide (c ∈ y.cps.toList) else decide (c ∈ y.cps.toList)))
    | _ => none
  | _, _ => none
theorem one_sign {x : Str} {c : Nat} (h : x.cps.toList = [c]) : x = ⟨#[c]⟩ := by
  cases x with
  | mk a =>
    congr
    exact Array.toList_inj.mp h
theorem os_inS : OpS K (fun x y H Q => ∃ i j, x = .str i ∧ y = .str j ∧ Q (.bl (!(Builtin.Str.occurrences j i 0 j.length 1).isEmpty)) H) (fInS false) := by
  intro H x y d e z rx ry hz
  unfold fInS at hz
  split at hz
  · rename_i i j
    split at hz
    · rename_i c hc
      cases hz
      cases rx; cases ry
      have := one_sign hc
      subst this
      exact ⟨_, .bl _, fun Q q => ⟨_, _, rfl, rfl, by rw [StrLaws.found_one]; simpa using q⟩⟩
    · cases hz
  · cases hz
theorem os_notInS : OpS K (fun x y H Q => ∃ i j, x = .str i ∧ y = .str j ∧ Q (.bl (!(!(Builtin.Str.occurrences j i 0 j.length 1).isEmpty))) H) (fInS true) := by
  intro H x y d e z rx ry hz
  unfold fInS at hz
  split at hz
  · rename_i i j
    split at hz
    · rename_i c hc
      cases hz
      cases rx; cases ry
      have := one_sign hc
      subst this
      exact ⟨_, .bl _, fun Q q => ⟨_, _, rfl, rfl, by rw [StrLaws.found_one]; simpa using q⟩⟩
    · cases hz
  · cases hz
theorem x_inS (ha : XB K X a ma) (hb : XB K X b mb) (hm : behindInMarks .In b = false := by rfl) : XE K X (.Compare a [.In] [b] pos) (m2 (fInS false) ma mb) := x_cmp op_in_str os_inS ha hb hm
theorem t_inS (ha : XB K X a ma) (hb : XB K X b mb) (hm : behindInMarks .In b = false := by rfl) : XT K X (.Compare a [.In] [b] pos) (mT (m2 (fInS false) ma mb)) := t_cmp op_in_str os_inS ha hb hm
theorem x_notInS (ha : XB K X a ma) (hb : XB K X b mb) (hm : behindInMarks .NotIn b = false := by rfl) : XE K X (.Compare a [.NotIn] [b] pos) (m2 (fInS true) ma mb) := x_cmp op_notIn_str os_notInS ha hb hm
theorem t_notInS (ha : XB K X a ma) (hb : XB K X b mb) (hm : behindInMarks .NotIn b = false := by rfl) : XT K X (.Compare a [.NotIn] [b] pos) (mT (m2 (fInS true) ma mb)) := t_cmp op_notIn_str os_notInS ha hb hm
/-- a, b = e, f -/
def mPar (i j : Nat) (ml : ML) : MS := fun s => match ml s with
  | some [d, e] => .nx ((s.set i (some (.sh d))).set j (some (.sh e)))
  | _ => .no
theorem s_par {i j : Nat} {st : Stmt} (h : PS X st (tPar i j (tAc K ml))) : XS K C E X st (mPar i j ml) := ps_imp h fun Dn σ H ⟨H0, G, s, r, q⟩ => by
  unfold mPar at q
  split at q
  · rename_i d e hm
    refine ⟨H0, G, s, _, r, hm, fun vs H1 e1 rv => ?_⟩
    obtain ⟨v, u, rfl, r1, r2⟩ := rv.two
    refine ⟨v, u, rfl, ?_⟩
    have s1 := (r.mono e1).set i r1
    have c1 : ∀ a, Cl G σ s a → Cl G (σ.set i (some v)) (s.set i (some (.sh d))) a := fun a z => ⟨z.1, fun ⟨k, ds, h1, h2⟩ => by
      rcases get_set h1 with ⟨_, z1, _⟩ | ⟨hk, h1⟩
      · cases z1
      · rw [List.getElem?_set_ne (Ne.symm hk)] at h2
        exact z.2 ⟨k, ds, h1, h2⟩⟩
    exact q _ H1 (s1.set j (r2.wider c1)) (((Tr.set (H := H1) i).trans (Tr.set (H := H1) j)).ex e1)
  · exact q.elim
end
end DD

/-! # A tuple read backwards; a table with pairs as keys -/
namespace DD
variable [LTb]
open PySem PySem.Spec PyProof.Rows L2
theorem back_adjust (n : Nat) : Builtin.Slice.sliceAdjust none none (-1) (n : Int) = ((n : Int) - 1, -1) := rfl
theorem back_places (n : Nat) : Builtin.Slice.slicePlaces ((n : Int) - 1) (-1) (-1) = n := by
  unfold Builtin.Slice.slicePlaces
  rw [if_neg (by decide)]
  split
  · rw [show -(-1 : Int) = 1 from rfl, Int.ediv_one]; omega
  · omega
theorem fm_congr {α β : Type} {f g : α → Option β} : ∀ (l : List α), (∀ x ∈ l, f x = g x) → l.filterMap f = l.filterMap g
  | [], _ => rfl
  | x :: l, h => by
    have h1 := h x List.mem_cons_self
    have h2 := fm_congr l fun y hy => h y (List.mem_cons_of_mem _ hy)
    cases hg : g x with
    | none => rw [List.filterMap_cons_none (h1.trans hg), List.filterMap_cons_none hg, h2]
    | some y => rw [List.filterMap_cons_some (h1.trans hg), List.filterMap_cons_some hg, h2]
theorem back_pick (xs : Array Value) : ((List.range xs.size).filterMap fun (m : Nat) => xs[((xs.size : Int) - 1 + (m : Int) * (-1)).toNat]?).toArray = xs.toList.reverse.toArray := by
  have e : ∀ m, m ∈ List.range xs.size → xs[((xs.size : Int) - 1 + (m : Int) * (-1)).toNat]? = some (xs.toList.reverse.getD m .none) := fun m hm => by
    have hm := List.mem_range.mp hm
    have h1 : ((xs.size : Int) - 1 + (m : Int) * (-1)).toNat = xs.size - 1 - m := by omega
    rw [h1, List.getD_eq_getElem?_getD, List.getElem?_reverse (by rw [Array.length_toList]; exact hm), Array.length_toList, Array.getElem?_toList, Array.getElem?_eq_getElem (by omega)]
    rfl
  congr 1
  have e2 : (List.range xs.size).filterMap (fun (m : Nat) => xs[((xs.size : Int) - 1 + (m : Int) * (-1)).toNat]?) = (List.range xs.size).filterMap (fun m => some (xs.toList.reverse.getD m .none)) := by
    exact fm_congr _ e
  rw [e2, List.filterMap_eq_map']
  apply List.ext_getElem?
  intro i
  rw [List.getElem?_map]
  by_cases hi : i < xs.size
  · rw [List.getElem?_range hi, Option.map_some, List.getD_eq_getElem?_getD, List.getElem?_eq_getElem (by rw [List.length_reverse, Array.length_toList]; exact hi)]
    rfl
  · rw [List.getElem?_eq_none (by rw [List.length_range]; omega), List.getElem?_eq_none (by rw [List.length_reverse, Array.length_toList]; omega)]
    rfl
section
variable {prog : Program} {w : World} {A : Around} {E : Value → Shared → Prop} {s : Shared}
theorem applied_back {sl : Addr} {vl vu vs : Value} {n : Nat} {Q : Int × Int × Nat → Shared → Prop} (hs : s.heap.IsSliceOf sl vl vu vs) (pl : IsPart vl none) (pu : IsPart vu none) (ps : IsPart vs (some (-1)))
    (h : Q ((n : Int) - 1, -1, n) s) : wpAny (model prog w) A (Builtin.Slice.sliceApplied (.ref sl) (pure (n : Int))) Q E s := by
  obtain ⟨os, hos, hcs, hds⟩ := id hs
  unfold Builtin.Slice.sliceApplied Builtin.Slice.sliceFields
  refine wpAny_bind (wpAny_bind (wpAny_field hos hds (x := vl) rfl (wpAny_bind (wpAny_field hos hds (x := vu) rfl (wpAny_bind (wpAny_field hos hds (x := vs) rfl (wpAny_pure ?_)))))))
  refine wpAny_bind (HT.slicePart_ ps ?_)
  show wpAny _ _ (if ((-1 : Int) == 0) = true then _ else _) _ _ s
  rw [if_neg (by decide)]
  refine wpAny_bind (HT.slicePart_ pl (wpAny_bind (HT.slicePart_ pu (wpAny_bind (wpAny_pure ?_)))))
  show wpAny _ _ (match Builtin.Slice.sliceAdjust none none (-1) (n : Int) with | (lo, hi) => pure (lo, (-1 : Int), Builtin.Slice.slicePlaces lo hi (-1))) _ _ s
  rw [back_adjust]
  show wpAny _ _ (pure ((n : Int) - 1, (-1 : Int), Builtin.Slice.slicePlaces ((n : Int) - 1) (-1) (-1))) _ _ s
  rw [back_places]
  exact wpAny_pure h
theorem getItem_back {t sl : Addr} {items : Array Value} {vl vu vs : Value} {Q : Value → Shared → Prop} (ht : IsTup s.heap t items) (hs : s.heap.IsSliceOf sl vl vu vs) (pl : IsPart vl none) (pu : IsPart vu none) (ps : IsPart vs (some (-1)))
    (h : Q (.ref s.heap.objs.size) { s with heap := s.heap.push { cls := .type "tuple", data := .seq items.toList.reverse.toArray } }) (hsz : items.size ≤ sizeLine) : wpAny (model prog w) A (getItem (.ref t) (.ref sl)) Q E s := by
  have hok : sizeOk (.seq items.toList.reverse.toArray) := by
    show items.toList.reverse.toArray.size ≤ sizeLine
    rw [List.size_toArray, List.length_reverse, Array.length_toList]
    exact hsz
  obtain ⟨os, hos, hcs, hds⟩ := id hs
  have hTs : s.TypeIs (.ref sl) "slice" := ⟨os, hos, hcs⟩
  unfold getItem
  try with_reducible refine wpAny_holding ?_
  first | refine wpAny_bind (wpAny_pure ?_) | skip
  refine wpAny_bind (wpAny_sequenceKey ht.typeIs (by decide) (wpAny_bind (wpAny_callSpecial?_slot (name := Str.ofString "__getitem__") ht.typeIs PyProof.Rows.slot_tuple_getitem
    (wpAny_call_entry PyProof.Rows.slot_tuple_getitem ht.typeIs PyProof.Rows.entry_tuple_getitem ?_ (PyProof.Rows.args_tuple_getitem _ _)))))
  show wpAny _ _ (Builtin.Tuple.tupleItemsOf (.ref t) >>= _) _ _ s
  refine wpAny_bind (PyProof.Rows.tupleItemsOf_ ht (wpAny_bind (wpAny_typeOf hTs ?_)))
  rw [if_pos (by decide)]
  refine wpAny_bind (applied_back hs pl pu ps ?_)
  show wpAny _ _ (if (((items.size : Int) - 1) == 0 && (-1 : Int) == 1 && items.size == items.size) = true then _ else _) _ _ s
  rw [if_neg (by simp), back_pick]
  first
    | exact wpAny_bind (m := Builtin.Tuple.tupleExact _) (wpAny_newObj_type (wpAny_pure ⟨_, rfl, wpAny_pure h⟩) hok)
    | exact wpAny_bind (wpAny_bind (m := Builtin.Tuple.tupleExact _) (wpAny_newObj_type (wpAny_pure ⟨_, rfl, wpAny_pure h⟩) hok))
    | exact wpAny_bind (m := Builtin.Tuple.tupleExact _) (wpAny_newObj_type (wpAny_bind (wpAny_pure (wpAny_pure ⟨_, rfl, wpAny_pure h⟩))) hok)
end
def tRevT (K : Fg) (te : TE) : TE := fun σ H Q => te σ H fun x H1 => ∃ a xs, x = .ref a ∧ SqT K H1 a xs ∧ ∀ p o, H1 p = none → o.cls = .type "tuple" → o.dict = none → Q (.ref p) (upd H1 p (.frz o (.tup xs.reverse)))
section
variable {X : Cx} {K : Fg} {m : M}
theorem pe_revT {e : Expr} {te : TE} {k : Nat} {p1 p2 p3 pos : Pos} (he : PE X e te) : PE X (.Subscript e (.Slice none none (some (.UnaryOp .USub (.Constant (.int 1) k p1) p2)) p3) pos) (tRevT X.K te) := by
  refine ⟨fun pins s σ H Q I h => Subscript_ (thn (he.run pins s σ H _ I h) fun v s1 ⟨x, H1, I1, r1, a, xs, ex, hx, q⟩ => ?_)⟩
  subst ex
  cases r1
  have hst : PO X (some (.UnaryOp .USub (.Constant (.int 1) k p1) p2)) (tPart (tUn (rU fun i => .int (-i)) (tC (.int 1)))) := po_some (pe_un un_neg pe_int)
  refine wpAny_Slice (thn (po_none.run pins s1 σ H1 (fun o H2 => o = none ∧ H2 = H1) I1 ⟨rfl, rfl⟩) fun vl s2 ⟨l, H2, I2, pl, el, e2⟩ => ?_)
  subst el e2
  refine thn (po_none.run pins s2 σ H2 (fun o H3 => o = none ∧ H3 = H2) I2 ⟨rfl, rfl⟩) fun vu s3 ⟨u, H3, I3, pu, eu, e3⟩ => ?_
  subst eu e3
  refine thn (hst.run pins s3 σ H3 (fun o H4 => o = some (-1) ∧ H4 = H3) I3 ⟨1, rfl, -1, rfl, rfl, rfl⟩) fun vs s4 ⟨o, H4, I4, ps, eo, e4⟩ => ?_
  subst eo e4
  have I5 : Inv X pins σ H4 { s4 with heap := s4.heap.push { cls := .type "slice", data := .fields #[vl, vu, vs] } } := I4.kept (t' := s4.toks) fun b ob q => Heap.get?_push_of_some _ q
  obtain ⟨its, r, ht, hz⟩ := I5.tuple hx
  have hlen := r.length
  show wpAny (model X.prog X.w) X.A (subscriptTail e (.Slice none none (some (.UnaryOp .USub (.Constant (.int 1) k p1) p2)) p3) (.ref a) (.ref s4.heap.objs.size)) (EP X pins σ Q) X.xe { s4 with heap := s4.heap.push { cls := .type "slice", data := .fields #[vl, vu, vs] } }
  refine tail_any (ops := [.ref a, .ref s4.heap.objs.size]) ht.typeIs (PyProof.Rows.slot_tuple_getitem.lookup) ?_ (by with_unfolding_all rfl)
  refine getItem_back ht (Heap.IsSliceOf.new _ vl vu vs) pl pu ps ?_ (by rw [List.size_toArray]; omega)
  have L := tup_laid (t' := s4.toks) I5 r.reverse (by rw [List.length_reverse]; exact hz)
  exact ⟨.ref _, _, L, rfl, q _ _ I5.hok.free0 rfl rfl⟩
def mRevT (m : M) : M := fun s => (m s).bind fun d => (fTup d).map fun ds => .tuple ds.reverse
theorem x_revT {e : Expr} {k : Nat} {p1 p2 p3 pos : Pos} (hK : X.K = K) (ha : XB K X e m) : XE K X (.Subscript e (.Slice none none (some (.UnaryOp .USub (.Constant (.int 1) k p1) p2)) p3) pos) (mRevT m) := by
  subst hK
  refine pe_imp (pe_revT ha) fun σ H Q ⟨H0, G, s, d, rs, e, q⟩ => ?_
  obtain ⟨x, ex, e⟩ := some_bind e
  obtain ⟨ds, ed, rfl⟩ := Option.map_eq_some_iff.mp e
  have := fTup_some ed
  subst this
  refine ⟨H0, G, s, _, rs, ex, fun v H1 e1 rv => ?_⟩
  rcases rv with rv | ⟨i, es, _, _, z⟩
  · cases rv with
    | tup hr ha =>
      rename_i a xs
      refine ⟨a, xs, rfl, hr.sqt, fun p o hp h1 h2 => q _ _ (e1.trans (Ex.new hp)) (.tup (.inl ⟨o, upd_same, h1, h2⟩) ((ha.ex (Ex.new hp)).reverse))⟩
  · cases es <;> cases z
end
end DD

/-! # A table of the written part with pairs of whole numbers as keys -/
namespace DD
variable [LTb]
open PySem PySem.Spec PyProof.Rows L2
/-- the table at d: its rows (key, where the key stands, its text) -/
structure DTab (P : Program) (w : World) (K : Fg) (d : Addr) (xs : List (List Int × Addr × Str × Tok)) : Prop where
  ob : ∃ (o : Obj) (es : Array DictEntry) (ep : Nat), K.lookup d = some o ∧ o.ExactDict ∧ o.data = .dict es ep ∧ es.toList = xs.map fun x => ⟨thash P w x.1, .ref x.2.1, .str x.2.2.1 x.2.2.2⟩
  ks : ∀ x ∈ xs, ∃ (o : Obj) (its : Array Value) (n : Nat), K.lookup x.2.1 = some o ∧ o.cls = .type "tuple" ∧ o.data = .seq its n ∧ ItemsAre (intKind P w) x.1 its.toList
  nd : (xs.map (·.1)).Nodup
  ns : (d == sysModules) = false
  lay : ∀ x ∈ xs, (PyData.str x.2.2.1).canLay0 = true
/-- the table as it is asked -/
def DTab.rows (xs : List (List Int × Addr × Str × Tok)) : List (List Int × Addr × Value) := xs.map fun x => (x.1, x.2.1, .str x.2.2.1 x.2.2.2)
theorem DTab.at {P : Program} {w : World} {K : Fg} {d : Addr} {xs : List (List Int × Addr × Str × Tok)} (T : DTab P w K d xs) {h : Heap} (kin : K.In h) : h.DictOfH (tupleKind (intKind P w)) d (DTab.rows xs) := by
  obtain ⟨o, es, ep, h1, h2, h3, h4⟩ := T.ob
  refine ⟨o, es, ep, kin _ _ h1, h2, h3, ?_, fun x hx => ?_, ?_⟩
  · rw [h4]
    unfold DTab.rows
    rw [List.map_map]
    rfl
  · obtain ⟨y, hy, rfl⟩ := List.mem_map.mp hx
    obtain ⟨o', its, n, k1, k2, k3, k4⟩ := T.ks y hy
    exact ⟨o', its, n, kin _ _ k1, k2, k3, k4⟩
  · have e : (DTab.rows xs).map (·.1) = xs.map (·.1) := by
      unfold DTab.rows
      rw [List.map_map]
      rfl
    rw [e]
    exact T.nd
def tabLook : List (List Int × Addr × Str × Tok) → List Int → Option Str
  | [], _ => none
  | x :: xs, k => if x.1 = k then some x.2.2.1 else tabLook xs k
theorem tab_at (k : List Int) : ∀ xs : List (List Int × Addr × Str × Tok), match tabLook xs k with
    | some s => (∃ t, ((atKey (DTab.rows xs) k).map (·.2)).getD .none = .str s t) ∧ ∃ x ∈ xs, x.2.2.1 = s
    | none => ((atKey (DTab.rows xs) k).map (·.2)).getD .none = .none
  | [] => rfl
  | x :: xs => by
    unfold tabLook
    by_cases e : x.1 = k
    · rw [if_pos e]
      refine ⟨⟨x.2.2.2, ?_⟩, x, List.mem_cons_self, rfl⟩
      simp [atKey, DTab.rows, e]
    · rw [if_neg e]
      have ih := tab_at k xs
      have same : atKey (DTab.rows (x :: xs)) k = atKey (DTab.rows xs) k := by
        simp [atKey, DTab.rows, e]
      rw [same]
      cases hl : tabLook xs k with
      | none => rw [hl] at ih; exact ih
      | some s =>
        rw [hl] at ih
        obtain ⟨h1, y, hy, h2⟩ := ih
        exact ⟨h1, y, List.mem_cons_of_mem _ hy, h2⟩
def fGetK (f : List Int → Option Str) : D → Option D := fun d => (keyD d).map fun k => match f k with
  | some s => .str s
  | none => .none
theorem ints_are {P : Program} {w : World} : ∀ {ks : List Int} {us : List Value}, Vals (ks.map V.int) us → ItemsAre (intKind P w) ks us
  | [], _, .nil => .nil
  | k :: ks, _, .cons r1 r2 => by
    obtain ⟨t, rfl⟩ := r1
    exact .cons (by simp [PySem.intKind, Value.isInt]) (ints_are r2)
section
variable {K : Fg} {X : Cx} {m : M} {e : Expr} {x : Str} {d : Addr} {xs : List (List Int × Addr × Str × Tok)} {p apos cpos : Pos}
theorem x_getK {k : Nat} (T : DTab X.prog X.w X.K d xs) (hK : X.K = K) (hr : Room k X.A) (hg : Gl X x) (hm : X.mg x = some (.ref d)) (ha : XB K X e m) (hM : M1 X (.Name x p) "get" apos e cpos) (hdb : (x == ("__debug__" : Str)) = false := by decide) :
    XE K X (.Call (.Attribute (.Name x p) "get" apos) [e] [] cpos) (m1 (fGetK (tabLook xs)) m) := by
  subst hK
  refine ⟨fun pins s σ H Q I ⟨H0, G, sd, z, r, e0, q⟩ => ?_⟩
  obtain ⟨y, ey, ek⟩ := some_bind e0
  obtain ⟨ks, ek', rfl⟩ := opt_map ek
  refine wpAny_Call_method hM.base hM.few hM.line PySem.F.plainAttrs_dict PySem.F.slot_dict_get PySem.F.type_dict_get (ld_glob I hg hm ?_ hdb)
  have D0 := T.at I.kIn
  refine ⟨D0.typeIs, fun b hb => ?_, ?_⟩
  · cases hb
    obtain ⟨ob, _, _, h1, h2, _⟩ := D0
    exact ⟨ob, h1, h2.2.1⟩
  rw [hM.trees]
  refine Calls.callWith_builtin rfl (Calls.evalArgs_plain (Calls.spliced_cons (thn (ha.run pins s σ H (fun v H1 => Ex H H1 ∧ RB X.K G σ sd H1 v y) I ⟨H0, G, sd, y, r, ey, fun v H1 e1 rv => ⟨e1, rv⟩⟩) fun u s2 ⟨v, H2, I2, ru, e2, rv⟩ => Calls.spliced_nil ?_)))
  obtain ⟨a, rfl, ht⟩ := R.keyD (RB.any r e2 rv) ek'
  cases ru
  obtain ⟨its, rv', ⟨o, ho, hc, n, hd⟩, _⟩ := I2.tuple ht.sqt
  have key : (tupleKind (intKind X.prog X.w)).is s2.heap ks a := ⟨o, its.toArray, n, ho, hc, hd, by rw [List.toList_toArray]; exact ints_are rv'⟩
  have hu : X.A.units + 1 < cLine := by have := hr.un; omega
  refine call_meetsIn PySem.F.slot_dict_get (T.at I2.kIn).typeIs PySem.F.entry_dict_get (PySem.F.args_dict_get_2 _ _) (meetsH_dict_get (tupleKind (intKind X.prog X.w)) d a T.ns) ⟨tupleKind_room_in1 hu, ks, _, key, T.at I2.kIn, ?_⟩
  have lk := tab_at ks xs
  cases hl : tabLook xs ks with
  | none =>
    rw [hl] at lk q
    rw [lk]
    exact ⟨.non, H2, I2.tok _, rfl, q _ H2 e2 .non⟩
  | some t =>
    rw [hl] at lk q
    obtain ⟨⟨tk, l1⟩, z, hz, l2⟩ := lk
    rw [l1]
    exact ⟨.str t, H2, I2.tok _, ⟨tk, rfl⟩, q _ H2 e2 (.str (l2 ▸ T.lay z hz))⟩
theorem x_getKq {k : Nat} {f : List Int → Option Str} (hq : tabLook xs = f) (T : DTab X.prog X.w X.K d xs) (hK : X.K = K) (hr : Room k X.A) (hg : Gl X x) (hm : X.mg x = some (.ref d)) (ha : XB K X e m) (hM : M1 X (.Name x p) "get" apos e cpos) (hdb : (x == ("__debug__" : Str)) = false := by decide) :
    XE K X (.Call (.Attribute (.Name x p) "get" apos) [e] [] cpos) (m1 (fGetK f) m) := hq ▸ x_getK T hK hr hg hm ha hM hdb
end
theorem items2 {P : Program} {w : World} {a b : Int} {u v : Tok} : ItemsAre (PySem.intKind P w) [a, b] [.int a u, .int b v] := .cons (by simp [PySem.intKind, Value.isInt]) (.cons (by simp [PySem.intKind, Value.isInt]) .nil)
theorem hash_lit {P : Program} {w : World} {k : List Int} {h : Int} (e : h = reduceHash (Builtin.Tuple.tupleHashOf (k.map hashInt))) : h = thash P w k := e
theorem dtab_mk {P : Program} {w : World} {K : Fg} {d : Addr} {xs : List (List Int × Addr × Str × Tok)} {es : Array DictEntry} {ep : Nat} (l : K.lookup d = some ⟨.type "dict", none, .dict es ep, #[]⟩) (he : es.toList = xs.map fun x => ⟨thash P w x.1, .ref x.2.1, .str x.2.2.1 x.2.2.2⟩)
    (ks : ∀ x ∈ xs, ∃ (o : Obj) (its : Array Value) (n : Nat), K.lookup x.2.1 = some o ∧ o.cls = .type "tuple" ∧ o.data = .seq its n ∧ ItemsAre (PySem.intKind P w) x.1 its.toList) (nd : (xs.map (·.1)).Nodup) (ns : (d == sysModules) = false) (lay : ∀ x ∈ xs, (PyData.str x.2.2.1).canLay0 = true) : DTab P w K d xs :=
  ⟨⟨_, es, ep, l, ⟨rfl, rfl, rfl⟩, rfl, he⟩, ks, nd, ns, lay⟩
theorem len1 {m : M} {s : S} {ds : List D} (h : mCons m mNil s = some ds) : ds.length = 1 := by
  obtain ⟨x, xs, _, h2, rfl⟩ := mCons_some h
  cases h2
  rfl
theorem len2 {m n : M} {s : S} {ds : List D} (h : mCons m (mCons n mNil) s = some ds) : ds.length = 2 := by
  obtain ⟨x, xs, _, h2, rfl⟩ := mCons_some h
  rw [List.length_cons, len1 h2]
theorem len3 {m n o : M} {s : S} {ds : List D} (h : mCons m (mCons n (mCons o mNil)) s = some ds) : ds.length = 3 := by
  obtain ⟨x, xs, _, h2, rfl⟩ := mCons_some h
  rw [List.length_cons, len2 h2]
/-- the __init__ of the class that stands at i of the text -/
def initOf : Stmt → Stmt
  | .ClassDef (body := b) .. => b.getD 0 (.Pass ⟨0, 0, 0, 0⟩)
  | s => s
/-- its promise -/
theorem init_mk {P : Program} {w : World} {K : Fg} {mg : Str → Option Value} {base : Heap} {x q : Str} {st : Stmt} {fI cda cc C : Addr} {dV kV doc pm ct oc : Value} {an od : Option Addr} {osl : Array (Option Value)} {N ns : List Str} {parts : List (Str ⊕ Nat)} {pl : Sem Bool}
    {e : Expr} {p0 p1 p2 p3 p4 : Pos} {stores : List Stmt} (hbd : defBody st = .Expr (supC e p0 p1 p2 p3) p4 :: stores)
    (lk : K.lookup fI = some ⟨oc, od, .func (PySem.W.ksFn "__init__" q (defArgs st) (defBody st) (defScope st) dV kV doc pm an (.ref cda) ct cc), osl⟩) (hcd : PySem.W.codeIn K (.ref cda) q = true) (hcc : ∃ o v, K.lookup cc = some o ∧ o.data = .cell v)
    (S : NdefX.NScope N ("self" :: ns) ["__class__"] (defScope st)) (su : (defScope st).names.lookup ("super" : Str) = some .globalImplicit) (T : OexC K C) (F : SupF P K mg fI cda cc C) (hne : ns ≠ []) (hns : ns.length ≤ 20) (hpl : parts.length ≤ 50) (hpo : partsOk ns.length parts = true) (hno : ∀ n ∈ ns, PySem.W.findIn K (.ref C) n = some none)
    (he : ∀ (A : Around) (outer : List Env) (s : Shared) (H : Hp) (E : XK), A.units + 3 + 20 < cLine → PE (NdefX.ncx CX0 P w K mg base N (supN "__init__" q (defArgs st) (.Expr (supC e p0 p1 p2 p3) p4 :: stores) (defScope st) cc cda) fI A outer s H E) e (fun σ H Q => tJs (parts.map (partT K)) Str.empty σ H fun out H1 => Q (.str out) H1))
    (hst : ∀ (A : Around) (outer : List Env) (s : Shared) (H : Hp) (E : XK), PSs (NdefX.ncx CX0 P w K mg base N (supN "__init__" q (defArgs st) (.Expr (supC e p0 p1 p2 p3) p4 :: stores) (defScope st) cc cda) fI A outer s H E) stores (tSt1 K (slotsFrom 1 ns)))
    (hi : ∀ n : Addr, interactive (NdefX.envF (supN "__init__" q (defArgs st) (.Expr (supC e p0 p1 p2 p3) p4 :: stores) (defScope st) cc cda) fI n) = false) (hsw : ∀ n : Addr, swapsWith (supC e p0 p1 p2 p3) none p4.line (NdefX.envF (supN "__init__" q (defArgs st) (.Expr (supC e p0 p1 p2 p3) p4 :: stores) (defScope st) cc cda) fI n) = pure false)
    (hev : ∀ n : Addr, eval (supC e p0 p1 p2 p3) (NdefX.envF (supN "__init__" q (defArgs st) (.Expr (supC e p0 p1 p2 p3) p4 :: stores) (defScope st) cc cda) fI n) = (do
      let ov ← attributeBase (.Call (.Name "super" p0) [] [] p1) "__init__" (NdefX.envF (supN "__init__" q (defArgs st) (.Expr (supC e p0 p1 p2 p3) p4 :: stores) (defScope st) cc cda) fI n) (eval (.Call (.Name "super" p0) [] [] p1) (NdefX.envF (supN "__init__" q (defArgs st) (.Expr (supC e p0 p1 p2 p3) p4 :: stores) (defScope st) cc cda) fI n))
      standAt p2.atName
      let (f', first) ← holding [ov] (getMethod ov "__init__" pl)
      callWith p3 f' first (backTo p3 (starEach [e] (NdefX.envF (supN "__init__" q (defArgs st) (.Expr (supC e p0 p1 p2 p3) p4 :: stores) (defScope st) cc cda) fI n))) []))
    (hse : ∀ n : Addr, starEach [e] (NdefX.envF (supN "__init__" q (defArgs st) (.Expr (supC e p0 p1 p2 p3) p4 :: stores) (defScope st) cc cda) fI n) = (false, eval e (NdefX.envF (supN "__init__" q (defArgs st) (.Expr (supC e p0 p1 p2 p3) p4 :: stores) (defScope st) cc cda) fI n)) :: starEach [] (NdefX.envF (supN "__init__" q (defArgs st) (.Expr (supC e p0 p1 p2 p3) p4 :: stores) (defScope st) cc cda) fI n))
    (gC : mg x = some (.ref C)) (iC : PySem.W.findIn K (.ref C) "__init__" = some (some (.ref fI))) (tI : PySem.W.typeIn K (.ref fI) = some (.type "function")) (hb : Binds K (PySem.W.ksFn "__init__" q (defArgs st) (defBody st) (defScope st) dV kV doc pm an (.ref cda) ct cc) ("self" :: ns) []) : ExcK P w K mg base 1 x C ns := by
  rw [hbd] at lk hb
  exact ⟨T, gC, fI, _, iC, tI, fn_init (k := 0) lk hcd hcc S su T F hne hns hpl hpo hno he hst hi hsw hev hse, hb⟩
end DD

/-! # Comprehensions with any number of fors -/
namespace DD
open PySem PySem.Spec PyProof.Rows L2
section
variable {prog : Program} {w : World} {A : Around} {R : Result → Shared → Prop} {s : Shared} {elt : Expr} {gens : List Comprehension} {scope : Scope} {pos : Pos} {it acc : Value} {env : Env} {k : Nat}
theorem compTurnM {t i t1 i1 : Expr} {ifs ifs1 : List Expr} (hg : gens[k]? = some ⟨t, i, ifs, 0⟩) (hg1 : gens[k + 1]? = some ⟨t1, i1, ifs1, 0⟩) : compTurn (.ListComp elt gens scope pos) k it acc env = (do
      standAt i.pos
      match ← pyNext it with
      | none => pure (.done .next)
      | some v =>
        letOwnedTupleGo t it v
        assign t env v
        let mut ok := true
        for c in ifs do
          if ok then ok ← isTrue c env (eval c env)
        if ok then
          let x ← eval i1 env
          standAt i1.pos
          let x ← foldedSetIterable i1 env x
          let _ ← runOwn (.compStart (.ListComp elt gens scope pos) (k + 1) (← holding [x] (pyIter x)) acc env) env
        again (.compLoop (.ListComp elt gens scope pos) k it acc env)) := by
  unfold compTurn
  simp only [hg, hg1]
  rfl
theorem compTurnL {t i : Expr} {ifs : List Expr} (hg : gens[k]? = some ⟨t, i, ifs, 0⟩) (hg1 : gens[k + 1]? = none) : compTurn (.ListComp elt gens scope pos) k it acc env = (do
      standAt i.pos
      match ← pyNext it with
      | none => pure (.done .next)
      | some v =>
        letOwnedTupleGo t it v
        assign t env v
        let mut ok := true
        for c in ifs do
          if ok then ok ← isTrue c env (eval c env)
        if ok then
          (do let _ ← call (.builtin "list.append") [acc, ← eval elt env])
        again (.compLoop (.ListComp elt gens scope pos) k it acc env)) := by
  unfold compTurn
  simp only [hg, hg1]
  rfl
/-- what a turn does behind its tests -/
def Inn (prog : Program) (w : World) (A : Around) (elt : Expr) (gens : List Comprehension) (scope : Scope) (pos : Pos) (k : Nat) (acc : Value) (env : Env) (E : Value → Shared → Prop) (P : Shared → Prop) (s : Shared) : Prop :=
  match gens[k + 1]? with
  | some g' => wpAny (model prog w) A (eval g'.iter env) (fun x s₄ => wpAny (model prog w) A (pyIter x) (fun it1 s₅ =>
      codeAny (model prog w) A (.compStart (.ListComp elt gens scope pos) (k + 1) it1 acc env) (fun r s' => match r with
        | .ok _ => P s'
        | .error _ => False) s₅) E s₄) E s
  | none => wpAny (model prog w) A (eval elt env) (fun x s₄ => wpAny (model prog w) A (call (.builtin "list.append") [acc, x]) (fun _ s₅ => P s₅) E s₄) E s
/-- the loop of the clause k -/
theorem compLoopN {t i : Expr} {ifs : List Expr} (hg : gens[k]? = some ⟨t, i, ifs, 0⟩) (hn : ∀ g', gens[k + 1]? = some g' → g'.is_async = 0 ∧ ∀ x, foldedSetIterable g'.iter env x = pure x) (I : Nat → Shared → Prop)
    (turn : ∀ n s, I n s → wpAny (model prog w) A (pyNext it) (fun r s₁ => match r with
      | none => R (.ok .next) s₁
      | some v => wpAny (model prog w) A (letOwnedTupleGo t it v) (fun _ s₁' => wpAny (model prog w) A (assign t env v) (fun _ s₂ =>
          wpAny (model prog w) A (forIn ifs true fun c r => if r = true then do let ok ← isTrue c env (eval c env); pure (ForInStep.yield ok) else pure (ForInStep.yield r)) (fun ok s₃ =>
            if ok = true then Inn prog w A elt gens scope pos k acc env (notedBy (model prog w) A env fun e s' => R (.error e) s') (fun s₅ => ∃ m, m < n ∧ I m s₅) s₃
            else ∃ m, m < n ∧ I m s₃) (notedBy (model prog w) A env fun e s' => R (.error e) s') s₂) (notedBy (model prog w) A env fun e s' => R (.error e) s') s₁') (notedBy (model prog w) A env fun e s' => R (.error e) s') s₁) (notedBy (model prog w) A env fun e s' => R (.error e) s') s)
    (n : Nat) (h : I n s) :
    codeAny (model prog w) A (.compLoop (.ListComp elt gens scope pos) k it acc env) R s := by
  refine codeAny_loop rfl I (fun n s hI => ?_) n h
  show wpAny _ A ((compTurn (.ListComp elt gens scope pos) k it acc env).onRaise (fun x => do noteFrame x env; theTreesLotGoes x)) _ _ s
  refine wpAny_noted ?_
  have trn := turn n s hI
  unfold Inn at trn
  cases hg1 : gens[k + 1]? with
  | none =>
    rw [compTurnL hg hg1]
    simp only [hg1] at trn
    refine wpAny_bind (wpAny_standAt (wpAny_bind (wpAny_mono trn (fun r s₁ h₁ => ?_) fun _ _ h' => h')))
    cases r with
    | none => exact wpAny_pure h₁
    | some v =>
      refine wpAny_bind (wpAny_mono h₁ (fun _ s₁' h₁' => ?_) fun _ _ h' => h')
      refine wpAny_bind (wpAny_mono h₁' (fun _ s₂ h₂ => wpAny_bind (wpAny_mono h₂ (fun ok s₃ h₃ => ?_) fun _ _ h' => h')) fun _ _ h' => h')
      cases ok with
      | false => exact wpAny_pure ⟨rfl, h₃⟩
      | true =>
        exact wpAny_bind (wpAny_bind (wpAny_mono h₃ (fun x s₄ h₄ => wpAny_bind (wpAny_mono h₄ (fun _ s₅ h₅ => wpAny_pure (wpAny_pure ⟨rfl, h₅⟩)) fun _ _ h' => h')) fun _ _ h' => h'))
  | some g' =>
    obtain ⟨t1, i1, ifs1, as1⟩ := g'
    obtain ⟨ha, hs⟩ := hn _ hg1
    cases ha
    rw [compTurnM hg hg1]
    simp only [hg1] at trn
    refine wpAny_bind (wpAny_standAt (wpAny_bind (wpAny_mono trn (fun r s₁ h₁ => ?_) fun _ _ h' => h')))
    cases r with
    | none => exact wpAny_pure h₁
    | some v =>
      refine wpAny_bind (wpAny_mono h₁ (fun _ s₁' h₁' => ?_) fun _ _ h' => h')
      refine wpAny_bind (wpAny_mono h₁' (fun _ s₂ h₂ => wpAny_bind (wpAny_mono h₂ (fun ok s₃ h₃ => ?_) fun _ _ h' => h')) fun _ _ h' => h')
      cases ok with
      | false => exact wpAny_pure ⟨rfl, h₃⟩
      | true =>
        refine wpAny_bind (wpAny_mono h₃ (fun x s₄ h₄ => ?_) fun _ _ h' => h')
        refine wpAny_bind (wpAny_standAt (wpAny_bind (wpAny_of_eq (hs x) (wpAny_bind (wpAny_holding (wpAny_mono h₄ (fun it1 s₅ h₅ => ?_) fun _ _ h' => h'))))))
        refine wpAny_bind (wpAny_runOwn ?_)
        rw [Around.mark_none]
        refine codeAny_mono h₅ fun r s' hr => ?_
        cases r with
        | ok f =>
          first
            | exact wpAny_pure ⟨rfl, hr⟩
            | exact wpAny_bind (wpAny_pure (wpAny_pure ⟨rfl, hr⟩))
        | error e => exact hr.elim
/-- a later clause's start -/
theorem compStartN {t i : Expr} {ifs : List Expr} (hg : gens[k]? = some ⟨t, i, ifs, 0⟩) (h0 : codeAny (model prog w) A (.compLoop (.ListComp elt gens scope pos) k it acc env) R s)
    (h : wpAny (model prog w) A (pyIter it) (fun it' s' => codeAny (model prog w) A (.compLoop (.ListComp elt gens scope pos) k it' acc env) R s')
      (notedBy (model prog w) A env fun x s' => R (.error x) s') s) :
    codeAny (model prog w) A (.compStart (.ListComp elt gens scope pos) k it acc env) R s := by
  refine codeAny_of_tree ?_
  show wpAny _ _ ((compStart (.ListComp elt gens scope pos) k it acc env).onRaise (fun x => do noteFrame x env; standAt theWindowsPlace)) _ _ s
  refine wpAny_notedAt ?_
  unfold compStart
  have hc : (clausesOf (.ListComp elt gens scope pos))[k]? = some ⟨t, i, ifs, 0⟩ := hg
  simp only [hc]
  show wpAny _ _ (ask >>= _) _ _ s
  refine wpAny_bind (wpAny_askSetting (wpAny_ite ?_))
  split
  · first
      | exact wpAny_bind (wpAny_pure (wpAny_pure (And.intro rfl h0)))
      | exact wpAny_pure (And.intro rfl h0)
  · first
      | exact wpAny_bind (wpAny_rule (wpAny_bind (wpAny_standAt (wpAny_bind (wpAny_mono h (fun it' s' h' => wpAny_pure (And.intro rfl h')) fun _ _ x => x)))))
      | (refine wpAny_bind (wpAny_rule ?_); show wpAny _ _ (standAt i.pos >>= _) _ _ s; exact wpAny_bind (wpAny_standAt (wpAny_bind (wpAny_mono h (fun it' s' h' => wpAny_pure (And.intro rfl h')) fun _ _ x => x))))
end
end DD

namespace DD
open PySem PySem.Spec PyProof.Rows L2
theorem Inn.mono {prog : Program} {w : World} {A : Around} {elt : Expr} {gens : List Comprehension} {scope : Scope} {pos : Pos} {k : Nat} {acc : Value} {env : Env} {E : Value → Shared → Prop} {P P' : Shared → Prop} {s : Shared}
    (h : Inn prog w A elt gens scope pos k acc env (fun _ _ => False) P s) (hp : ∀ s, P s → P' s) : Inn prog w A elt gens scope pos k acc env E P' s := by
  unfold Inn at h ⊢
  cases hg : gens[k + 1]? with
  | none =>
    simp only [hg] at h ⊢
    exact thnF h fun _ _ h1 => thnF h1 fun _ _ h2 => hp _ h2
  | some g' =>
    simp only [hg] at h ⊢
    exact thnF h fun _ _ h1 => thnF h1 fun _ _ h2 => codeAny_mono h2 fun r s' hr => by
      cases r with
      | ok f => exact hp _ hr
      | error e => exact hr.elim
abbrev TB := Addr → L2.St → Hp → (Hp → Prop) → Prop
section
variable {X : Cx}
abbrev Bk (X : Cx) (scope : Scope) (s : Shared) (H : Hp) (C : Addr) (cl : List (Str × Addr)) (fp : List Addr) : Cx := X.blk s H scope (compEnvC scope cl C X.env) fp
/-- what a turn of the clause k does behind its tests -/
def PBk (X : Cx) (elt : Expr) (gens : List Comprehension) (scope : Scope) (pos : Pos) (k : Nat) (vs : List Nat) (tb : TB) : Prop :=
  ∀ (s0 : Shared) (H0 : Hp) (C : Addr) (cl : List (Str × Addr)) (fp : List Addr) (pins : List (Addr × Obj)) (s : Shared) (σ : L2.St) (H : Hp) (D : Addr) (Q : Hp → Prop), Inv (Bk X scope s0 H0 C cl fp) pins σ H s → tb D σ H Q →
    Inn X.prog X.w X.A elt gens scope pos k (.ref D) (compEnvC scope cl C X.env) (fun _ _ => False) (fun s' => ∃ σ9 H', Inv (Bk X scope s0 H0 C cl fp) pins σ9 H' s' ∧ σ9.length = σ.length ∧ (∀ (j : Nat) v, (wipe σ vs)[j]? = some (some v) → σ9[j]? = some (some v)) ∧ Q H') s
def tbLast (te : TE) : TB := fun D σ H Q => te σ H fun y H4 => ∃ acc, H4 D = some (.lst acc) ∧ acc.length < sizeLine ∧ Q (upd H4 D (.lst (acc ++ [y])))
theorem pb_last {elt : Expr} {gens : List Comprehension} {scope : Scope} {pos : Pos} {k : Nat} {te : TE} (hg : gens[k + 1]? = none)
    (he : ∀ (s : Shared) (H : Hp) (C : Addr) (cl : List (Str × Addr)) (fp : List Addr), PE (X.blk s H scope (compEnvC scope cl C X.env) fp) elt te) : PBk X elt gens scope pos k [] (tbLast te) := by
  intro s0 H0 C cl fp pins s σ H D Q I h
  unfold Inn
  simp only [hg]
  refine thnF ((he s0 H0 C cl fp).run pins s σ H _ I h) fun z s17 ⟨yv, H17, I17, r17, acc, hD17, hz17, nx⟩ => ?_
  exact app_ok (X := Bk X scope s0 H0 C cl fp) I17 hD17 hz17 r17 fun s18 I18 => ⟨σ, _, I18, rfl, fun j v e => e, nx⟩
def tbStep (wi : TI) (g : TG) (tt : TT) (vs : List Nat) (tb : TB) : TB := fun D σ H Q => wi σ H fun J H1 => ∃ W : Nat → Nat → Hp → Prop, (∃ m, W 0 m H1) ∧ ∀ i m H, W i m H →
  (J.stop i H ∧ Q H) ∨ (J.go i H ∧ ∃ Nx : Hp → Prop, (∀ H', Nx H' → ∃ m', m' < m ∧ W (i + 1) m' H') ∧ ∀ x H', J.yld i H x H' → g x (wipe σ vs) H' fun σ2 H2 => wipe σ2 vs = wipe σ vs ∧ tt σ2 H2 fun b H3 =>
    if b = true then tb D σ2 H3 Nx else Nx H3)
theorem pb_step {elt tg iter : Expr} {ifs : List Expr} {gens : List Comprehension} {scope : Scope} {pos : Pos} {k : Nat} {vs vs' : List Nat} {wi : TI} {g : TG} {tt : TT} {tb : TB} (hc : X.calm = true) (hg0 : gens[k + 1]? = some ⟨tg, iter, ifs, 0⟩)
    (hn : ∀ g', gens[k + 1 + 1]? = some g' → g'.is_async = 0 ∧ ∀ env x, foldedSetIterable g'.iter env x = pure x) (hv : ∀ i ∈ vs', i ∈ vs)
    (hi : ∀ (s : Shared) (H : Hp) (C : Addr) (cl : List (Str × Addr)) (fp : List Addr), PI (X.blk s H scope (compEnvC scope cl C X.env) fp) tg iter wi)
    (hg : ∀ (s : Shared) (H : Hp) (C : Addr) (cl : List (Str × Addr)) (fp : List Addr), PG (X.blk s H scope (compEnvC scope cl C X.env) fp) tg g)
    (ht : ∀ (s : Shared) (H : Hp) (C : Addr) (cl : List (Str × Addr)) (fp : List Addr), PTs (X.blk s H scope (compEnvC scope cl C X.env) fp) ifs tt)
    (hb : PBk X elt gens scope pos (k + 1) vs' tb) : PBk X elt gens scope pos k vs (tbStep wi g tt vs tb) := by
  intro s0 H0 C cl fp pins s σ8 H9 D Q I9 q9
  have pi1 := hi s0 H0 C cl fp
  have pg1 := hg s0 H0 C cl fp
  have pt1 := ht s0 H0 C cl fp
  unfold Inn
  simp only [hg0]
  generalize hce : compEnvC scope cl C X.env = ce at pi1 pg1 pt1 ⊢
  have hY : Bk X scope s0 H0 C cl fp = X.blk s0 H0 scope ce fp := by subst hce; rfl
  rw [hY] at I9 ⊢
  refine thnF (pi1.run _ s σ8 H9 _ I9 q9) fun xv s10 hx => thnF hx fun itv s11 h11 => ?_
  obtain ⟨it1, fp1, tn1, J1, H11, e1, I11, T1, st11, f11, W1, ⟨m1, w1⟩, turn1⟩ := h11
  subst e1
  have stat1 : ∀ {H' : Hp}, (∀ b ∈ fp1, H' b = none) → ∀ b ∈ fp1, FpOk (X.blk s0 H0 scope ce fp) pins H' b := fun hn b hb => ⟨hn b hb, (f11 b hb).2⟩
  have loop1 : codeAny (model X.prog X.w) X.A (.compLoop (.ListComp elt gens scope pos) (k + 1) (.ref it1) (.ref D) ce)
      (fun r s' => match r with
        | .ok _ => ∃ σ9 H', Inv (X.blk s0 H0 scope ce fp) pins σ9 H' s' ∧ σ9.length = σ8.length ∧ (∀ (j : Nat) v, (wipe σ8 vs)[j]? = some (some v) → σ9[j]? = some (some v)) ∧ Q H'
        | .error _ => False) s11 := by
    refine compLoopN hg0 (fun g' e => ⟨(hn g' e).1, (hn g' e).2 ce⟩) (fun k s' => ∃ j H', Inv (X.blk s0 H0 scope ce fp) pins (wipe σ8 vs) H' s' ∧ tn1 j s'.heap ∧ (∀ b ∈ fp1, H' b = none) ∧ W1 j k H') ?_ m1 ⟨0, H11, I11.weak (wipe_length _ _) (fun j v e => (wipe_some e).1), st11, fun b hb => (f11 b hb).1, w1⟩
    rintro k' s12 ⟨j, H12, I12, st12, n12, w12⟩
    rcases turn1 j k' H12 w12 with ⟨stop1, nx1⟩ | ⟨go1, Nx1, hNx1, step1⟩
    · refine thnF (T1.done (X.blk s0 H0 scope ce fp) rfl rfl rfl hc j _ s12 (wipe σ8 vs) H12 (fun _ _ => False) I12 (stat1 n12) st12 stop1) fun r s13 ⟨hr, I13⟩ => ?_
      subst hr
      exact ⟨wipe σ8 vs, H12, I13, wipe_length _ _, fun j v e => e, nx1⟩
    · refine thnF (T1.item (X.blk s0 H0 scope ce fp) rfl rfl rfl hc j _ s12 (wipe σ8 vs) H12 (fun _ _ => False) I12 (stat1 n12) st12 go1) fun r s13 ⟨u1, hr, h13⟩ => ?_
      subst hr
      refine thnF h13 fun _ s14 ⟨x1, H14, I14, r14, y14, st14, n14⟩ => ?_
      have I14' := I14.pinned (stat1 n14) (T1.obj _ _ st14)
      refine thnF (pg1.run _ s14 (wipe σ8 vs) H14 x1 u1 _ I14' r14 (step1 x1 H14 y14)) fun _ s15 ⟨σ15, H15, I15, hw15, q15⟩ => ?_
      refine thnF (pt1.run _ s15 σ15 H15 _ I15 q15) fun b1 s16 ⟨H16, I16, q16⟩ => ?_
      have fin1 : ∀ {σ9 : L2.St} {s' : Shared} {H' : Hp}, Inv (X.blk s0 H0 scope ce fp) (pins ++ pinsAt fp1 s14.heap) σ9 H' s' → σ9.length = σ15.length → (∀ (j : Nat) v, (wipe σ8 vs)[j]? = some (some v) → σ9[j]? = some (some v)) → Nx1 H' →
          ∃ m, m < k' ∧ ∃ j H', Inv (X.blk s0 H0 scope ce fp) pins (wipe σ8 vs) H' s' ∧ tn1 j s'.heap ∧ (∀ b ∈ fp1, H' b = none) ∧ W1 j m H' := fun {σ9 s' H'} I' hl hk nx => by
        obtain ⟨m', hm, w'⟩ := hNx1 H' nx
        have pin' : ∀ b ∈ fp1, ∀ o, s14.heap.get? b = some o → s'.heap.get? b = some o ∧ H' b = none := fun b hb o e =>
          let z := I'.pin (b, o) (List.mem_append_right _ (List.mem_append_right _ (mem_pinsAt hb e)))
          ⟨z.1, z.2.1⟩
        refine ⟨m', hm, j + 1, H', I'.unpinned.weak (by rw [hl, ← hw15, wipe_length]) hk, T1.keep _ _ _ st14 fun b hb o e => (pin' b hb o e).1, fun b hb => ?_, w'⟩
        obtain ⟨o, e, _⟩ := T1.obj _ _ st14 b hb
        exact (pin' b hb o e).2
      have hk15 : ∀ (j : Nat) v, (wipe σ8 vs)[j]? = some (some v) → σ15[j]? = some (some v) := fun j v e => by
        rw [← hw15] at e; exact (wipe_some e).1
      cases b1 with
      | false =>
        simp only [Bool.false_eq_true, if_false] at q16 ⊢
        exact fin1 I16 rfl hk15 q16
      | true =>
        simp only [if_true] at q16 ⊢
        have r9 := hb s0 H0 C cl fp (pins ++ pinsAt fp1 s14.heap) s16 σ15 H16 D Nx1 (by rw [hY]; exact I16) q16
        rw [hce, hY] at r9
        refine Inn.mono r9 fun s' ⟨σ9, H', I', hl, hk, nx⟩ => ?_
        refine fin1 I' hl (fun j v e => hk j v ?_) nx
        rw [← hw15] at e
        obtain ⟨e1, e2⟩ := wipe_some e
        rw [wipe_out fun z => e2 (hv j z)]
        exact e1
  exact compStartN hg0 loop1 (T1.self X.A 0 _ _ _ st11 loop1)
/-- the whole: the first clause -/
def tLcN (wi : TI) (g : TG) (tt : TT) (vs : List Nat) (tb : TB) : TE := fun σ H Q => wi σ H fun J H1 => ∀ D, H1 D = none → ∃ W : Nat → Nat → Hp → Prop, (∃ m, W 0 m (upd H1 D (.lst []))) ∧ ∀ i m H, W i m H →
  (J.stop i H ∧ Q (.ref D) H) ∨ (J.go i H ∧ ∃ Nx : Hp → Prop, (∀ H', Nx H' → ∃ m', m' < m ∧ W (i + 1) m' H') ∧ ∀ x H', J.yld i H x H' → g x (wipe σ vs) H' fun σ2 H2 => wipe σ2 vs = wipe σ vs ∧ tt σ2 H2 fun b H3 =>
    if b = true then tb D σ2 H3 Nx else Nx H3)
theorem lcN_core {pins : List (Addr × Obj)} {s : Shared} {σ : L2.St} {H : Hp} {Q : VK} {elt tg iter : Expr} {ifs : List Expr} {gs : List Comprehension} {scope : Scope} {own : List (Str × Nat)} {vs1 : List Nat} {pos pos' : Pos} {wi : TI} {g : TG} {tt : TT} {tb : TB} {use : Option (Value → Sem Unit)} {Qf : Value → Shared → Prop}
    (hc : X.calm = true) (hN : X.N.Nodup) (I : Inv X pins σ H s) (hi : PI X tg iter wi) (ok : BlkOk X.N X.env.scope scope own) (hv : ∀ i ∈ vs1, i ∈ own.map (·.2))
    (hn : ∀ g', gs[0]? = some g' → g'.is_async = 0 ∧ ∀ env x, foldedSetIterable g'.iter env x = pure x)
    (hg : ∀ (s : Shared) (H : Hp) (C : Addr) (cl : List (Str × Addr)) (fp : List Addr), PG (X.blk s H scope (compEnvC scope cl C X.env) fp) tg g) (ht : ∀ (s : Shared) (H : Hp) (C : Addr) (cl : List (Str × Addr)) (fp : List Addr), PTs (X.blk s H scope (compEnvC scope cl C X.env) fp) ifs tt)
    (hs : ∀ x, foldedSetIterable iter X.env x = pure x)
    (hb : PBk X elt (⟨tg, iter, ifs, 0⟩ :: gs) scope pos 0 vs1 tb)
    (h : tLcN wi g tt (own.map (·.2)) tb σ H Q)
    (hRR : ∀ D C s' m H', Inv X pins σ H' s' → Q (.ref D) H' → s'.heap.Ns C m → FpOk X pins H' C → compPost (model X.prog X.w) X.A X.xe use Qf (.ref D) C (.ok .next) s') :
    wpAny (model X.prog X.w) X.A (comprehension (.ListComp elt (⟨tg, iter, ifs, 0⟩ :: gs) scope pos) scope X.env pos' (newList []) false (eval iter X.env) use) Qf X.xe s := by
  have hfree : ∀ y ∈ scope.names, y.2 = .free → ∃ c, X.env.cells.lookup y.1 = some c := fun y hy e => by
    rcases ok.free y hy e with k | k
    · exact I.ok.has _ (.inl k)
    · exact I.ok.has _ (.inr k)
  refine wpAny_comprehension_free (use := use) rfl hs (closure_ok hfree) ok.kind (fun y hy e => by rw [ok.uniq y hy, e])
    (thn (hi.run pins s σ H _ I h) fun xv s1 hx => thn hx fun itv s2 h2 => ?_)
  obtain ⟨it, fp, tn, J, H2, e, I2, T, st2, f2, q⟩ := h2
  subst e
  refine wpAny_newObj_type (newEnv_comp ?_) (by show 0 ≤ sizeLine; decide)
  generalize hD : s2.heap.objs.size = D
  have hDn : H2 D = none := I2.hok.fresh (Nat.le_of_eq hD)
  obtain ⟨W, ⟨m0, w0⟩, turn⟩ := q D hDn
  -- the new list
  generalize hs3 : ({ s2 with heap := s2.heap.push { cls := .type "list", data := .seq ([] : List Value).toArray } } : Shared) = s3
  have I3 : Inv X pins σ (upd H2 D (.lst [])) s3 := by
    rw [← hs3]
    refine I2.laid (t' := s2.toks) (fun b o e => Heap.get?_push_of_some _ e) (Nat.le_of_eq hD) ⟨Nat.zero_le _, [], 0, .nil, ?_⟩
    rw [← hD]
    exact Heap.get?_push_size _ rfl
  have h3 : s3.heap = s2.heap.push { cls := .type "list", data := .seq ([] : List Value).toArray } := by rw [← hs3]
  have sz : ∀ b ∈ fp, b < s2.heap.objs.size := fun b hb => by
    obtain ⟨o, e, _⟩ := T.obj _ _ st2 b hb
    exact Heap.lt_size e
  have f3 : ∀ b ∈ fp, FpOk X pins (upd H2 D (.lst [])) b ∧ b < s3.heap.objs.size := fun b hb => by
    have hlt := sz b hb
    refine ⟨⟨?_, (f2 b hb).2⟩, by rw [h3, Heap.size_push]; exact Nat.lt_succ_of_lt hlt⟩
    rw [upd_ne (by rw [← hD]; exact Nat.ne_of_lt hlt)]
    exact (f2 b hb).1
  have st3 : tn 0 s3.heap := T.keep _ _ _ st2 fun b _ o e => by rw [h3]; exact Heap.get?_push_of_some _ e
  have I4 := block_start I3 ok hN f3
  have pg := hg s3 (upd H2 D (.lst [])) s3.heap.objs.size (cellsFrom (s3.heap.objs.size + 1) scope.names (cloFrom X.env.cells scope.names [])) fp
  have pt := ht s3 (upd H2 D (.lst [])) s3.heap.objs.size (cellsFrom (s3.heap.objs.size + 1) scope.names (cloFrom X.env.cells scope.names [])) fp
  have pb := hb s3 (upd H2 D (.lst [])) s3.heap.objs.size (cellsFrom (s3.heap.objs.size + 1) scope.names (cloFrom X.env.cells scope.names [])) fp
  show codeAny _ _ (.compStart (.ListComp elt (⟨tg, iter, ifs, 0⟩ :: gs) scope pos) 0 (.ref it) (.ref D) (compEnvC scope (cellsFrom (s3.heap.objs.size + 1) scope.names (cloFrom X.env.cells scope.names [])) s3.heap.objs.size X.env)) (compPost (model X.prog X.w) X.A X.xe use Qf (.ref D) s3.heap.objs.size) { s3 with heap := pushCells (s3.heap.push { cls := .type "dict", data := .dict #[] }) scope.names }
  have nfp : ∀ b ∈ fp, (upd H2 D (.lst [])) b = none := fun b hb => (f3 b hb).1.1
  generalize hce : compEnvC scope (cellsFrom (s3.heap.objs.size + 1) scope.names (cloFrom X.env.cells scope.names [])) s3.heap.objs.size X.env = ce at I4 pg pt ⊢
  have cL : ce.locals = s3.heap.objs.size := by subst hce; rfl
  generalize hH3 : upd H2 D (.lst []) = H3 at I3 I4 pg pt pb w0 nfp f3
  generalize hs4 : ({ s3 with heap := pushCells (s3.heap.push { cls := .type "dict", data := .dict #[] }) scope.names } : Shared) = s4 at I4 ⊢
  have st4 : tn 0 s4.heap := T.keep _ _ _ st3 fun b _ o e => by rw [← hs4]; exact pushCells_keeps _ _ _ _ (Heap.get?_push_of_some _ e)
  have stat : ∀ {σ' : L2.St} {H' : Hp} {s' : Shared}, Inv (X.blk s3 H3 scope ce fp) [] σ' H' s' → (∀ b ∈ fp, H' b = none) → ∀ b ∈ fp, FpOk (X.blk s3 H3 scope ce fp) [] H' b := fun {σ' H' s'} I' hn b hb =>
    ⟨hn b hb, (I'.ok.exf b hb).1, I'.ok.exfs b hb, .inl hb, fun x c e => (I'.ok.exf b hb).2 x c e, fun p hp => absurd (show p ∈ ([] : List (Addr × Obj)) ++ [] from hp) (by simp)⟩
  have hY : Bk X scope s3 H3 s3.heap.objs.size (cellsFrom (s3.heap.objs.size + 1) scope.names (cloFrom X.env.cells scope.names [])) fp = X.blk s3 H3 scope ce fp := by subst hce; rfl
  have loop : codeAny (model X.prog X.w) X.A (.compLoop (.ListComp elt (⟨tg, iter, ifs, 0⟩ :: gs) scope pos) 0 (.ref it) (.ref D) ce) (compPost (model X.prog X.w) X.A X.xe use Qf (.ref D) s3.heap.objs.size) s4 := by
    refine compLoopN (t := tg) (i := iter) (ifs := ifs) rfl (fun g' e => ⟨(hn g' e).1, (hn g' e).2 ce⟩) (fun n s' => ∃ i H', Inv (X.blk s3 H3 scope ce fp) [] (wipe σ (own.map (·.2))) H' s' ∧ tn i s'.heap ∧ (∀ b ∈ fp, H' b = none) ∧ W i n H') ?_ m0 ⟨0, H3, I4, st4, nfp, w0⟩
    rintro n s5 ⟨i, H5, I5, st5, n5, w5⟩
    rcases turn i n H5 w5 with ⟨stop, qq⟩ | ⟨go, Nx, hNx, step⟩
    · have td := T.done (X.blk s3 H3 scope ce fp) rfl rfl rfl hc i [] s5 _ H5 (fun _ _ => False) I5 (stat I5 n5) st5 stop
      refine thnF td fun r s6 ⟨hr, I6⟩ => ?_
      subst hr
      -- back in the def's context
      have I7 : Inv X pins σ H5 s6 := I3.call' (ch := fp) I6.os I6.base I6.hok I6.bare fun b hb => ⟨(f3 b hb).1.2.2.2.1, (f3 b hb).1.2.1, (f3 b hb).1.2.2.2.2.1, (f3 b hb).1.2.2.2.2.2⟩
      have nC : H5 s3.heap.objs.size = none := by
        have z : H5 ce.locals = none := I6.free
        rw [cL] at z
        exact z
      obtain ⟨m, hn, _⟩ := I6.loc
      have hn : s6.heap.Ns ce.locals m := hn
      rw [cL] at hn
      exact hRR D s3.heap.objs.size s6 m H5 I7 qq hn (I3.fpOk (Nat.le_refl _) nC)
    · have ti := T.item (X.blk s3 H3 scope ce fp) rfl rfl rfl hc i [] s5 _ H5 (fun _ _ => False) I5 (stat I5 n5) st5 go
      refine thnF ti fun r s6 ⟨u, hr, h6⟩ => ?_
      subst hr
      refine thnF h6 fun _ s7 ⟨x, H7, I7, r7, y7, st7, n7⟩ => ?_
      have I7' := I7.pinned (stat I7 n7) (T.obj _ _ st7)
      refine thnF (pg.run _ s7 _ H7 x u _ I7' r7 (step x H7 y7)) fun _ s8 ⟨σ8, H8, I8, hw8, q8⟩ => ?_
      refine thnF (pt.run _ s8 σ8 H8 _ I8 q8) fun b s9 ⟨H9, I9, q9⟩ => ?_
      have fin : ∀ {σ9 : L2.St} {s' : Shared} {H' : Hp}, Inv (X.blk s3 H3 scope ce fp) ([] ++ pinsAt fp s7.heap) σ9 H' s' → σ9.length = σ8.length → (∀ (j : Nat) v, (wipe σ (own.map (·.2)))[j]? = some (some v) → σ9[j]? = some (some v)) → Nx H' →
          ∃ m, m < n ∧ ∃ i H', Inv (X.blk s3 H3 scope ce fp) [] (wipe σ (own.map (·.2))) H' s' ∧ tn i s'.heap ∧ (∀ b ∈ fp, H' b = none) ∧ W i m H' := fun {σ9 s' H'} I' hl hk nx => by
        obtain ⟨m', hm, w'⟩ := hNx H' nx
        have pin' : ∀ b ∈ fp, ∀ o, s7.heap.get? b = some o → s'.heap.get? b = some o ∧ H' b = none := fun b hb o e =>
          let z := I'.pin (b, o) (List.mem_append_right _ (List.mem_append_right _ (mem_pinsAt hb e)))
          ⟨z.1, z.2.1⟩
        refine ⟨m', hm, i + 1, H', (I'.unpinned (pins := [])).weak (by rw [hl, ← hw8, wipe_length]) hk, T.keep _ _ _ st7 fun b hb o e => (pin' b hb o e).1, fun b hb => ?_, w'⟩
        obtain ⟨o, e, _⟩ := T.obj _ _ st7 b hb
        exact (pin' b hb o e).2
      cases b with
      | false =>
        simp only [Bool.false_eq_true, if_false] at q9 ⊢
        exact fin I9 rfl (fun j v e => by rw [← hw8] at e; exact (wipe_some e).1) q9
      | true =>
        simp only [if_true] at q9 ⊢
        have r9 := pb ([] ++ pinsAt fp s7.heap) s9 σ8 H9 D Nx (by rw [hY]; exact I9) q9
        rw [hce, hY] at r9
        refine Inn.mono r9 fun s' ⟨σ9, H', I', hl, hk, nx⟩ => ?_
        refine fin I' hl (fun j v e => hk j v ?_) nx
        rw [← hw8] at e
        obtain ⟨e1, e2⟩ := wipe_some e
        rw [wipe_out fun z => e2 (hv j z)]
        exact e1
  exact codeAny_compStart_list loop (T.self X.A 0 _ _ _ st4 loop)
theorem pe_lcN {elt tg iter : Expr} {ifs : List Expr} {gs : List Comprehension} {scope : Scope} {own : List (Str × Nat)} {vs1 : List Nat} {pos : Pos} {wi : TI} {g : TG} {tt : TT} {tb : TB} (hc : X.calm = true) (hN : X.N.Nodup) (hi : PI X tg iter wi) (ok : BlkOk X.N X.env.scope scope own) (hv : ∀ i ∈ vs1, i ∈ own.map (·.2))
    (hn : ∀ g', gs[0]? = some g' → g'.is_async = 0 ∧ ∀ env x, foldedSetIterable g'.iter env x = pure x)
    (hg : ∀ (s : Shared) (H : Hp) (C : Addr) (cl : List (Str × Addr)) (fp : List Addr), PG (X.blk s H scope (compEnvC scope cl C X.env) fp) tg g) (ht : ∀ (s : Shared) (H : Hp) (C : Addr) (cl : List (Str × Addr)) (fp : List Addr), PTs (X.blk s H scope (compEnvC scope cl C X.env) fp) ifs tt)
    (hb : PBk X elt (⟨tg, iter, ifs, 0⟩ :: gs) scope pos 0 vs1 tb) (hs : ∀ x, foldedSetIterable iter X.env x = pure x := by intro _; rfl) :
    PE X (.ListComp elt (⟨tg, iter, ifs, 0⟩ :: gs) scope pos) (tLcN wi g tt (own.map (·.2)) tb) := by
  refine ⟨fun pins s σ H Q I h => ?_⟩
  rw [eval_ListComp]
  refine lcN_core hc hN I hi ok hv hn hg ht hs hb h fun D C s' m H' I' q hn f => ⟨m, hn, fun h'' sb => ?_⟩
  obtain ⟨f0, f1, f2, f3, f4, f5⟩ := f
  exact ⟨.ref D, H', I'.turned (t' := s'.toks) (fun b o hb e => (sb.2 b hb).trans e) f0 f1 f3 f4 f5, rfl, q⟩
end
end DD

/-! # Comprehensions with any number of fors, over data -/
namespace DD
variable [LTb]
open PySem L2
/-- all but what stands at p stands -/
structure ExB (p : Addr) (H H' : Hp) : Prop where
  at_ : ∀ a o, a ≠ p → H a = some o → NT o → H' a = some o
  hv : ∀ a, H a ≠ none → H' a ≠ none
  tb : TabOk H → TabOk H'
theorem ExB.refl (p : Addr) (H : Hp) : ExB p H H := ⟨fun _ _ _ h _ => h, fun _ h => h, fun t => t⟩
theorem ExB.trans {p : Addr} {H H1 H2 : Hp} (a : ExB p H H1) (b : ExB p H1 H2) : ExB p H H2 := ⟨fun x o n h m => b.at_ x o n (a.at_ x o n h m) m, fun x h => b.hv x (a.hv x h), fun t => b.tb (a.tb t)⟩
theorem Ex.exb {p : Addr} {H H' : Hp} (e : Ex H H') : ExB p H H' := ⟨fun a o _ h n => e.at_ a o h n, e.hv, e.tb⟩
theorem ExB.rd {p a : Addr} {u : HO} {H H' : Hp} (e : ExB p H H') (n : a ≠ p) (h : Rd H a u) (m : NT u := by first | exact nt_lst | exact nt_frz | exact Mu.nt (by assumption) | assumption) : Rd H' a u := by
  rcases h with h | ⟨o, h⟩
  · exact .inl (e.at_ a _ n h m)
  · exact .inr ⟨o, e.at_ a _ n h nt_frz⟩
section
variable {K : Fg} {X : Cx} {H0 H H' H1 : Hp} {G B : Addr → Prop} {σ : L2.St} {s : S} {p : Addr}
theorem ExB.sqt {a : Addr} {xs zs : List V} (e : ExB p H H') (hp : H p = some (.lst zs)) (h : TupX K H a xs) : TupX K H' a xs := h.to fun o u q => e.at_ a _ (fun w => by rw [w, hp] at q; cases q) q nt_frz
theorem ExB.xo {a : Addr} {o : HO} {zs : List V} (e : ExB p H H') (hp : H p = some (.lst zs)) (m : Xo a o) (h : H a = some o) : H' a = some o := e.at_ a o (fun w => by subst w; rw [hp] at h; cases h; exact mu_xo (.lst _) m) h m.nt
theorem R.exb {d : D} {v : V} {zs : List V} (e : ExB p H H') (hp : H p = some (.lst zs)) (hB : ∀ a, B a → a ≠ p) (h : R K B H v d) : R K B H' v d := R.to (fun a _ m hb hr => ⟨hb, e.rd (hB a hb) hr m.nt⟩) (fun _ _ q => e.sqt hp q) (fun _ _ m q => e.xo hp m q) d v h
theorem RA.exb {ds : List D} {vs : List V} {zs : List V} (e : ExB p H H') (hp : H p = some (.lst zs)) (hB : ∀ a, B a → a ≠ p) (h : RA K B H vs ds) : RA K B H' vs ds := RA.to (fun a _ m hb hr => ⟨hb, e.rd (hB a hb) hr m.nt⟩) (fun _ _ q => e.sqt hp q) (fun _ _ m q => e.xo hp m q) ds vs h
theorem RS.exb {zs : List V} (r : RS K H0 G σ H s) (e : ExB p H H') (hp : H p = some (.lst zs)) (hp' : H' p ≠ none) (hG : ∀ a, G a → a ≠ p) (h0 : H0 p = none) : RS K H0 G σ H' s := by
  have cl : ∀ a, Cl G σ s a → a ≠ p := fun a z => hG a z.1
  refine ⟨r.len, ⟨fun a o h n => e.at_ a o (fun w => by rw [w, h0] at h; cases h) (r.ex.at_ a o h n) n, fun a h => e.hv a (r.ex.hv a h), fun t => e.tb (r.ex.tb t)⟩, fun a h => r.new a ?_, fun j d h => ?_, fun j ds h => ?_, r.inj, fun j ks h => ?_, e.tb r.tb⟩
  · cases q : H a with
    | none => rfl
    | some o => exact (e.hv a (by rw [q]; intro z; cases z) h).elim
  · obtain ⟨v, h1, h2⟩ := r.sh j d h
    exact ⟨v, h1, h2.exb e hp cl⟩
  · obtain ⟨a, u, h1, h2, h3, h4, h5⟩ := r.ow j ds h
    exact ⟨a, u, h1, e.at_ a u (hG a h4) h2 h5.mu.nt, h3, h4, h5.to (fun b _ m hb hr => ⟨hb, e.rd (cl b hb) hr m.nt⟩) (fun _ _ q => e.sqt hp q) (fun _ _ m q => e.xo hp m q)⟩
  · obtain ⟨v, h1, h2⟩ := r.st j ks h
    refine ⟨v, h1, h2.to (fun a L q => e.at_ a _ (fun w => ?_) q nt_set) (fun _ _ q => e.sqt hp q) (fun _ _ m q => e.xo hp m q)⟩
    · rw [w, hp] at q; cases q
/-! ### the mirror -/
def mCompN (g : MG) (mt : MB) (mc : ML) (s : S) : List D → Option (List D)
  | [] => some []
  | d :: ds => (g d s).bind fun s1 => (mt s1).bind fun b => if b = true then (mc s1).bind fun ys => (mCompN g mt mc s ds).map (ys ++ ·) else mCompN g mt mc s ds
omit [LTb] in
theorem mCompN_cons (g : MG) (mt : MB) (mc : ML) (s : S) (d : D) (ds : List D) : mCompN g mt mc s (d :: ds) = (g d s).bind fun s1 => (mt s1).bind fun b => if b = true then (mc s1).bind fun ys => (mCompN g mt mc s ds).map (ys ++ ·) else mCompN g mt mc s ds := rfl
def mLast (me : M) : ML := fun s => (me s).map fun y => [y]
def mStep (mi : ML) (g : MG) (mt : MB) (vs : List Nat) (mc : ML) : ML := fun s => if unowned s vs = true then (mi s).bind fun ds => mCompN g mt mc (wipeS s vs) ds else none
def mLcN (mi : ML) (g : MG) (mt : MB) (vs : List Nat) (mc : ML) : ML := fun s => (mStep mi g mt vs mc s).bind fun es => if es.length ≤ 50000 then some es else none
def tBD (K : Fg) (mc : ML) : TB := fun D σ H Q => ∃ H0 G s ys acc done B0, RS K H0 G σ H s ∧ (∀ a, G a → a ≠ D) ∧ H0 D = none ∧ (∀ a, Cl G σ s a → B0 a) ∧ (∀ a, B0 a → a ≠ D) ∧ mc s = some ys ∧ H D = some (.lst acc) ∧ RA K B0 H acc done ∧ done.length + ys.length ≤ 50000 ∧
  ∀ acc' H', ExB D H H' → H' D = some (.lst acc') → RA K B0 H' acc' (done ++ ys) → Q H'
theorem RA.upd' {ys zs : List V} (hp : H p = some (.lst ys)) (hB : ∀ a, B a → a ≠ p) {ds : List D} {vs : List V} (h : RA K B H vs ds) : RA K B (L2.upd H p (.lst zs)) vs ds :=
  (RA.upd (zs := zs) hp (h.wider fun a z => ⟨z, hB a z⟩)).wider fun a z => z.1
theorem exb_upd {u u0 : HO} (m : Mu p u0) (h0 : H p = some u0) : ExB p H (upd H p u) := ⟨fun a o n h _ => by rw [upd_ne n]; exact h, fun a h => (by
  by_cases q : a = p
  · rw [q, upd_same]; intro z; cases z
  · rw [upd_ne q]; exact h), fun t => t.mu m h0⟩
theorem rdLast {me : M} {D : Addr} {Q : Hp → Prop} (h : tBD K (mLast me) D σ H Q) : tbLast (tD K me) D σ H Q := by
  obtain ⟨H0, G, s, ys, acc, done, B0, r, hG, h0, hc, hB, e, hacc, ra, hl, q⟩ := h
  unfold mLast at e
  cases hy : me s with
  | none => rw [hy] at e; cases e
  | some y =>
    rw [hy] at e; cases e
    refine ⟨H0, G, s, y, r, hy, fun v H4 e4 rv => ?_⟩
    have hacc4 := e4 _ _ hacc
    have rl := ra.length
    refine ⟨acc, hacc4, sz_lt (by rw [rl]; simp at hl; omega), q (acc ++ [v]) _ (e4.exb.trans (exb_upd (.lst _) hacc4)) upd_same ?_⟩
    exact RA.upd' hacc4 hB ((ra.ex e4).append (.cons (rv.wider hc) .nil))
theorem rdStep {rl : Rl} (wd : Wide rl) {mi : ML} {g : MG} {ts vs : List Nat} {mt : MB} {mc : ML} (hts : ∀ t ∈ ts, t ∈ vs) {D : Addr} {Q : Hp → Prop} (h : tBD K (mStep mi g mt vs mc) D σ H Q) : tbStep (iDr rl K mi) (gDr rl K ts g) (tT K mt) vs (tBD K mc) D σ H Q := by
  obtain ⟨H0, G, s, ys, acc, done, B0, r, hG, h0, hc, hB, e, hacc, ra, hl, q⟩ := h
  obtain ⟨hu, e⟩ := if_some e
  obtain ⟨ds, ed, e⟩ := some_bind e
  refine ⟨H0, G, s, ds, r, ed, fun J H1 e1 yl => ?_⟩
  have r1 := r.mono e1
  have hacc1 := e1 _ _ hacc
  refine ⟨fun i n H' => ∃ acc' dn, n = ds.length - i ∧ i ≤ ds.length ∧ ExB D H1 H' ∧ H' D = some (.lst acc') ∧ RA K B0 H' acc' (done ++ dn) ∧ (mCompN g mt mc (wipeS s vs) (ds.drop i)).map (dn ++ ·) = some ys,
    ⟨ds.length, acc, [], rfl, Nat.zero_le _, ExB.refl _ _, hacc1, by rw [List.append_nil]; exact ra.ex e1, ?_⟩, fun i n H' ⟨acc', dn, en, hi, ex, hacc', ra', em⟩ => ?_⟩
  · rw [List.drop_zero, e]; rfl
  have kp : Kp G σ s H1 H' := fun a o h _ hg m => ex.at_ a o (fun w => by
    rcases hg with hg | ⟨q', u', hg⟩ | hg
    · exact hG a hg w
    · rw [w, hacc1, hg] at h; cases h
    · subst w; rw [hacc1] at h; cases h; exact mu_xo (.lst _) hg) h m
  by_cases hlt : i < ds.length
  · have hd : ds[i]? = some ds[i] := List.getElem?_eq_getElem hlt
    rw [List.drop_eq_getElem_cons hlt, mCompN_cons] at em
    refine .inr ⟨yl.go i _ H' hd kp, fun H'' => ∃ acc' dn, ExB D H1 H'' ∧ H'' D = some (.lst acc') ∧ RA K B0 H'' acc' (done ++ dn) ∧ (mCompN g mt mc (wipeS s vs) (ds.drop (i + 1))).map (dn ++ ·) = some ys,
      fun H'' ⟨acc', dn, z1, z2, z3, z4⟩ => ⟨ds.length - (i + 1), by omega, acc', dn, rfl, hlt, z1, z2, z3, z4⟩, fun x H3 y => ?_⟩
    obtain ⟨e3, rx⟩ := yl.yld i _ H' x H3 hd kp y
    have hacc3 := e3 _ _ hacc'
    have ex3 : ExB D H1 H3 := ex.trans e3.exb
    cases hg : g ds[i] (wipeS s vs) with
    | none => rw [hg] at em; cases em
    | some s1 =>
      rw [hg, Option.bind_some] at em
      obtain ⟨rw1, ow1⟩ := (r1.exb ex3 hacc1 (by rw [hacc3]; intro z; cases z) hG h0).wiped hu
      refine ⟨H0, G, wipeS s vs, ds[i], s1, rw1, wd.go _ _ _ _ _ (fun a z => ⟨z.1.1, fun o => z.1.2 ((ow1 a).mp o)⟩) rx, hg, fun σ2 r2 t2 b1 b2 => ⟨wipe_but b1 hts, ?_⟩⟩
      have down : ∀ a, Cl G σ2 s1 a → Cl G σ s a := fun a z => ⟨z.1, fun o => by
        obtain ⟨j, es', h1, h2⟩ := (ow1 a).mpr o
        have hj : j ∉ ts := fun w => unowned_at hu (hts j w) es' (wipeS_ow h1)
        exact z.2 ⟨j, es', by rw [b2.2 j hj]; exact h1, by rw [b1.2 j hj]; exact h2⟩⟩
      cases eb : mt s1 with
      | none => rw [eb] at em; cases em
      | some b =>
      rw [eb, Option.bind_some] at em
      refine ⟨H0, G, s1, b, r2, eb, fun H4 e4 => ?_⟩
      have hacc4 := e4 _ _ hacc3
      cases b with
      | false =>
        refine iteF ?_
        rw [if_neg Bool.false_ne_true] at em
        exact ⟨acc', dn, ex3.trans e4.exb, hacc4, (ra'.ex e3).ex e4, em⟩
      | true =>
        refine iteT ?_
        rw [if_pos rfl] at em
        cases hy : mc s1 with
        | none => rw [hy] at em; cases em
        | some y1 =>
          rw [hy, Option.bind_some] at em
          cases hr : mCompN g mt mc (wipeS s vs) (ds.drop (i + 1)) with
          | none => rw [hr] at em; cases em
          | some zs =>
            rw [hr] at em
            have em2 : dn ++ (y1 ++ zs) = ys := Option.some.inj em
            refine ⟨H0, G, s1, y1, acc', done ++ dn, B0, r2.mono e4, hG, h0, fun a z => hc a (down a z), hB, hy, hacc4, (ra'.ex e3).ex e4, by rw [← em2] at hl; simp at hl ⊢; omega, fun acc'' H5 e5 h5 ra5 => ?_⟩
            refine ⟨acc'', dn ++ y1, (ex3.trans e4.exb).trans e5, h5, by rw [← List.append_assoc]; exact ra5, ?_⟩
            rw [← em2]
            simp
  · have hie : i = ds.length := by omega
    subst hie
    rw [List.drop_length] at em
    have em2 : some (dn ++ []) = some ys := em
    cases em2
    rw [List.append_nil] at q
    exact .inl ⟨yl.stop H' kp, q acc' H' (e1.exb.trans ex) hacc' ra'⟩
theorem rdLcN {rl : Rl} (wd : Wide rl) {mi : ML} {g : MG} {ts vs : List Nat} {mt : MB} {mc : ML} (hts : ∀ t ∈ ts, t ∈ vs) {Q : VK} (h : tL K (mLcN mi g mt vs mc) σ H Q) : tLcN (iDr rl K mi) (gDr rl K ts g) (tT K mt) vs (tBD K mc) σ H Q := by
  obtain ⟨H0, G, s, es, r, e, q⟩ := h
  obtain ⟨es', e, e2⟩ := some_bind e
  obtain ⟨hz, e2⟩ := if_some e2
  cases e2
  obtain ⟨hu, e⟩ := if_some e
  obtain ⟨ds, ed, e⟩ := some_bind e
  refine ⟨H0, G, s, ds, r, ed, fun J H1 e1 yl P hP => ?_⟩
  have r1 := r.mono e1
  refine ⟨fun i n H' => ∃ acc done, n = ds.length - i ∧ i ≤ ds.length ∧ Ex H1 H' ∧ H' P = some (.lst acc) ∧ RA K (fun a => Cl G σ s a ∧ a ≠ P) H' acc done ∧ (mCompN g mt mc (wipeS s vs) (ds.drop i)).map (done ++ ·) = some es,
    ⟨ds.length, [], [], rfl, Nat.zero_le _, Ex.new hP, upd_same, .nil, ?_⟩, fun i n H' ⟨acc, done, en, hi, ex, hacc, ra, em⟩ => ?_⟩
  · rw [List.drop_zero, e]; rfl
  have kp : Kp G σ s H1 H' := fun a o h _ _ m => ex a o h m
  by_cases hlt : i < ds.length
  · have hd : ds[i]? = some ds[i] := List.getElem?_eq_getElem hlt
    rw [List.drop_eq_getElem_cons hlt, mCompN_cons] at em
    refine .inr ⟨yl.go i _ H' hd kp, fun H'' => ∃ acc done, Ex H1 H'' ∧ H'' P = some (.lst acc) ∧ RA K (fun a => Cl G σ s a ∧ a ≠ P) H'' acc done ∧ (mCompN g mt mc (wipeS s vs) (ds.drop (i + 1))).map (done ++ ·) = some es,
      fun H'' ⟨acc, done, z1, z2, z3, z5⟩ => ⟨ds.length - (i + 1), by omega, acc, done, rfl, hlt, z1, z2, z3, z5⟩, fun x H3 y => ?_⟩
    obtain ⟨e3, rx⟩ := yl.yld i _ H' x H3 hd kp y
    have hacc3 := e3 _ _ hacc
    cases hg : g ds[i] (wipeS s vs) with
    | none => rw [hg] at em; cases em
    | some s1 =>
      rw [hg, Option.bind_some] at em
      obtain ⟨rw1, ow1⟩ := (r1.but hP (ex.trans e3) (by rw [hacc3]; intro z; cases z)).wiped hu
      refine ⟨H0, _, wipeS s vs, ds[i], s1, rw1, wd.go _ _ _ _ _ (fun a z => ⟨⟨z.1.1, fun w => rd_none (w ▸ z.2) hP⟩, fun o => z.1.2 ((ow1 a).mp o)⟩) rx, hg, fun σ2 r2 t2 b1 b2 => ⟨wipe_but b1 hts, ?_⟩⟩
      have down : ∀ a, Cl (fun a => G a ∧ a ≠ P) σ2 s1 a → Cl G σ s a ∧ a ≠ P := fun a z => ⟨⟨z.1.1, fun o => by
        obtain ⟨j, es', h1, h2⟩ := (ow1 a).mpr o
        have hj : j ∉ ts := fun w => unowned_at hu (hts j w) es' (wipeS_ow h1)
        exact z.2 ⟨j, es', by rw [b2.2 j hj]; exact h1, by rw [b1.2 j hj]; exact h2⟩⟩, z.1.2⟩
      cases eb : mt s1 with
      | none => rw [eb] at em; cases em
      | some b =>
      rw [eb, Option.bind_some] at em
      refine ⟨H0, _, s1, b, r2, eb, fun H4 e4 => ?_⟩
      have hacc4 := e4 _ _ hacc3
      cases b with
      | false =>
        refine iteF ?_
        rw [if_neg Bool.false_ne_true] at em
        exact ⟨acc, done, (ex.trans e3).trans e4, hacc4, (ra.ex e3).ex e4, em⟩
      | true =>
        refine iteT ?_
        rw [if_pos rfl] at em
        cases hy : mc s1 with
        | none => rw [hy] at em; cases em
        | some y1 =>
          rw [hy, Option.bind_some] at em
          cases hr : mCompN g mt mc (wipeS s vs) (ds.drop (i + 1)) with
          | none => rw [hr] at em; cases em
          | some zs =>
            rw [hr] at em
            have em2 : done ++ (y1 ++ zs) = es := Option.some.inj em
            refine ⟨H0, _, s1, y1, acc, done, fun a => Cl G σ s a ∧ a ≠ P, r2.mono e4, fun a z => z.2, r1.ex.back hP, down, fun a z => z.2, hy, hacc4, (ra.ex e3).ex e4, by rw [← em2] at hz; simp at hz ⊢; omega, fun acc'' H5 e5 h5 ra5 => ?_⟩
            have e35 := (ex.trans e3).trans e4
            refine ⟨acc'', done ++ y1, ⟨fun a o h m => e5.at_ a o (fun w => by rw [w, hP] at h; cases h) (e35.at_ a o h m) m, fun a h => e5.hv a (e35.hv a h), fun t => e5.tb (e35.tb t)⟩, h5, ra5, ?_⟩
            · rw [← em2]
              simp
  · have hie : i = ds.length := by omega
    subst hie
    rw [List.drop_length] at em
    have em2 : some (done ++ []) = some es := em
    cases em2
    rw [List.append_nil] at q
    exact .inl ⟨yl.stop H' kp, q P acc H' (e1.back hP) (e1.trans ex) hacc ra⟩
/-! ### the rules -/
abbrev XC1 (K : Fg) (X : Cx) (elt : Expr) (gens : List Comprehension) (scope : Scope) (pos : Pos) (k : Nat) (vs : List Nat) (mc : ML) := PBk X elt gens scope pos k vs (tBD K mc)
theorem pb_imp {elt : Expr} {gens : List Comprehension} {scope : Scope} {pos : Pos} {k : Nat} {vs : List Nat} {t u : TB} (h : PBk X elt gens scope pos k vs t) (i : ∀ D σ H Q, u D σ H Q → t D σ H Q) : PBk X elt gens scope pos k vs u := fun s0 H0 C cl fp pins s σ H D Q I q => h s0 H0 C cl fp pins s σ H D Q I (i D σ H Q q)
theorem xc_last {elt : Expr} {gens : List Comprehension} {scope : Scope} {pos : Pos} {k : Nat} {me : M} (hg : gens[k + 1]? = none)
    (he : ∀ (s : Shared) (H : Hp) (C : Addr) (cl : List (Str × Addr)) (fp : List Addr), XE K (X.blk s H scope (compEnvC scope cl C X.env) fp) elt me) : XC1 K X elt gens scope pos k [] (mLast me) := pb_imp (pb_last hg he) fun _ _ _ _ h => rdLast h
theorem xc_step {elt tg iter : Expr} {ifs : List Expr} {gens : List Comprehension} {scope : Scope} {pos : Pos} {k : Nat} {ts vs vs' : List Nat} {mi : ML} {g : MG} {mt : MB} {mc : ML} (hc : X.calm = true) (hg0 : gens[k + 1]? = some ⟨tg, iter, ifs, 0⟩)
    (hn : ∀ g', gens[k + 1 + 1]? = some g' → g'.is_async = 0 ∧ ∀ env x, foldedSetIterable g'.iter env x = pure x) (hv : ∀ i ∈ vs', i ∈ vs) (hts : ∀ t ∈ ts, t ∈ vs)
    (hi : ∀ (s : Shared) (H : Hp) (C : Addr) (cl : List (Str × Addr)) (fp : List Addr), XI K (X.blk s H scope (compEnvC scope cl C X.env) fp) tg iter mi)
    (hg : ∀ (s : Shared) (H : Hp) (C : Addr) (cl : List (Str × Addr)) (fp : List Addr), XG K (X.blk s H scope (compEnvC scope cl C X.env) fp) tg ts g)
    (ht : ∀ (s : Shared) (H : Hp) (C : Addr) (cl : List (Str × Addr)) (fp : List Addr), XTs K (X.blk s H scope (compEnvC scope cl C X.env) fp) ifs mt)
    (hb : XC1 K X elt gens scope pos (k + 1) vs' mc) : XC1 K X elt gens scope pos k vs (mStep mi g mt vs mc) := pb_imp (pb_step hc hg0 hn hv hi hg ht hb) fun _ _ _ _ h => rdStep (wideR K) hts h
theorem l_lcN {elt tg iter : Expr} {ifs : List Expr} {gs : List Comprehension} {scope : Scope} {own : List (Str × Nat)} {ts vs1 : List Nat} {pos : Pos} {mi : ML} {g : MG} {mt : MB} {mc : ML} (hc : X.calm = true) (hN : X.N.Nodup) (hi : XI K X tg iter mi) (ok : BlkOk X.N X.env.scope scope own) (hv : ∀ i ∈ vs1, i ∈ own.map (·.2)) (hts : ∀ t ∈ ts, t ∈ own.map (·.2))
    (hn : ∀ g', gs[0]? = some g' → g'.is_async = 0 ∧ ∀ env x, foldedSetIterable g'.iter env x = pure x)
    (hg : ∀ (s : Shared) (H : Hp) (C : Addr) (cl : List (Str × Addr)) (fp : List Addr), XG K (X.blk s H scope (compEnvC scope cl C X.env) fp) tg ts g) (ht : ∀ (s : Shared) (H : Hp) (C : Addr) (cl : List (Str × Addr)) (fp : List Addr), XTs K (X.blk s H scope (compEnvC scope cl C X.env) fp) ifs mt)
    (hb : XC1 K X elt (⟨tg, iter, ifs, 0⟩ :: gs) scope pos 0 vs1 mc) (hs : ∀ x, foldedSetIterable iter X.env x = pure x := by intro _; rfl) :
    XL K X (.ListComp elt (⟨tg, iter, ifs, 0⟩ :: gs) scope pos) (mLcN mi g mt (own.map (·.2)) mc) := pe_imp (pe_lcN hc hN hi ok hv hn hg ht hb hs) fun _ _ _ h => rdLcN (wideR K) hts h
theorem nx_some {gs : List Comprehension} {k : Nat} {t i : Expr} {ifs : List Expr} (h : gs[k]? = some ⟨t, i, ifs, 0⟩) (hs : ∀ env x, foldedSetIterable i env x = pure x := by intro _ _; rfl) : ∀ g', gs[k]? = some g' → g'.is_async = 0 ∧ ∀ env x, foldedSetIterable g'.iter env x = pure x := fun g' e => by
  rw [h] at e; cases e; exact ⟨rfl, hs⟩
theorem nx_none {gs : List Comprehension} {k : Nat} (h : gs[k]? = none) : ∀ g', gs[k]? = some g' → g'.is_async = 0 ∧ ∀ env x, foldedSetIterable g'.iter env x = pure x := fun g' e => by rw [h] at e; cases e
end
end DD

/-! # enumerate over a list or a tuple -/
namespace DD
variable [LTb]
open PySem PySem.Spec PyProof.Rows L2
open Sem (wp)
set_option maxHeartbeats 4000000 in
theorem enum_new1 {v : Value} {o : Obj} {J : Heap → Prop} (B : Begins v o J) :
    Meets (Builtin.«enumerate.__new__» ⟨[.type "enumerate", v], []⟩) (fun _ R s => J s.heap ∧
      R (.ok (.ret (.ref (s.heap.push o).objs.size))) { s with heap := (s.heap.push o).push { cls := .type "enumerate", data := .fields #[.none, .bool false, .ref s.heap.objs.size, rawInt 0, .none, .none] } }) :=
  .of_wp fun P w A R s z => by
    obtain ⟨z1, z2⟩ := z
    have sub := sub_enumerate
    have go : ∀ {A' : Around} {E : Value → Shared → Prop} {Q : Value → Shared → Prop}, Q (.ref s.heap.objs.size) { s with heap := s.heap.push o } → wpAny (model P w) A' (pyIter v) Q E s := fun q => B.iter P w _ _ s _ z1 q
    obtain ⟨hp, g, d, tk, os⟩ := s
    wp_walk using go
    refine wpAny_stack_any fun st => wpAny_pure ?_
    split
    · rename_i c _ _ _ _ _
      cases (c == Value.type "enumerate")
      · wp_walk using go
        exact ⟨_, rfl, z2⟩
      · wp_walk using go
        exact ⟨_, rfl, z2⟩
    · wp_walk using go
      exact ⟨_, rfl, z2⟩
section
variable {P : Program} {w : World} {A : Around} {E : Value → Shared → Prop} {s : Shared}
theorem call_enum1 {v : Value} {o : Obj} {J : Heap → Prop} {Q : Value → Shared → Prop} (B : Begins v o J) (z : J s.heap)
    (h : ∀ h', IsEnum h' (s.heap.objs.size + 1) s.heap.objs.size 0 .none → h'.get? s.heap.objs.size = some o → (∀ b o, s.heap.get? b = some o → h'.get? b = some o) → Q (.ref (s.heap.objs.size + 1)) { s with heap := h' }) :
    wpAny (model P w) A (call (.type "enumerate") [v]) Q E s := by
  refine callType_new F.called_enumerate (by decide) (F.typeCall_enumerate_1 _) (F.newCall_enumerate_1 _) (fun obj => F.args_object_init_2 obj _) F.entry_enumerate_new (enum_new1 B) ⟨z, ?_⟩
  have sz : (s.heap.push o).objs.size = s.heap.objs.size + 1 := Heap.size_push ..
  have g := Heap.get?_push_size (s.heap.push o) (o := { cls := .type "enumerate", data := .fields #[.none, .bool false, .ref s.heap.objs.size, rawInt 0, .none, .none] }) rfl
  show _ ∧ _
  rw [sz] at g ⊢
  exact ⟨⟨_, g, rfl⟩, h _ g (Heap.get?_push_of_some _ (Heap.get?_push_size _ B.free)) fun b u x => Heap.get?_push_of_some _ (Heap.get?_push_of_some _ x)⟩
end
/-- the tuple at a as it stands at each turn, each item in a new pair -/
def IteT (K : PySem.W.Frag) (a : Addr) : It :=
  ⟨fun i H => ∃ (xs : List V) (x : V), SqT K H a xs ∧ xs[i]? = some x, fun i H v H' => ∃ T x, v = .ref T ∧ H T = none ∧ H' = upd H T (.tup [.int (i : Nat), x]) ∧ ∀ xs, SqT K H a xs → xs[i]? = some x, fun i H => ∃ xs : List V, SqT K H a xs ∧ xs.length ≤ i⟩
theorem turn_enumT {P : Program} {w : World} {K : PySem.W.Frag} {elts : List Expr} {kk : Nat} {tpos : Pos} (a e it : Addr) :
    Turn P w K (.Tuple elts kk tpos) (IteT K a) [e, it] e (fun i h => (∃ old, IsEnum h e it ((i : Nat) : Int) old) ∧ h.IsTupleIter it a i ∧ e ≠ it ∧ a ≠ it ∧ e ≠ a) where
  mem := by simp
  obj := fun i h st b hb => by
    obtain ⟨⟨old, he⟩, ⟨o, ho, hc, hd⟩, _⟩ := st
    rcases (show b = e ∨ b = it by simpa using hb) with z | z
    · rw [z]; exact ⟨_, he, fun v q => nomatch q⟩
    · rw [z]; exact ⟨o, ho, fun v q => by rw [hd] at q; cases q⟩
  keep := fun i h h' st k => let ⟨⟨old, he⟩, hi, hne⟩ := st; ⟨⟨old, k e (by simp) _ he⟩, hi.at fun o q => k it (by simp) o q, hne⟩
  item := by
    intro X hP hw hK hc i pins s σ H E I hf st hg
    subst hP hw hK
    obtain ⟨⟨old, he⟩, hit, hne, hai, hea⟩ := st
    obtain ⟨xs, x, hq, hx⟩ := hg
    obtain ⟨its, rv, p, hz⟩ := I.tuple hq
    obtain ⟨u, hu, ru⟩ := rv.get hx
    have hel : e < s.heap.objs.size := Heap.lt_size he
    have hil : it < s.heap.objs.size := by obtain ⟨_, q, _⟩ := hit; exact Heap.lt_size q
    have hn : i < its.toArray.size := by
      have := (List.getElem?_eq_some_iff.mp hu).1
      simpa using this
    have D : Draws X.prog X.w X.A.in1 it [it, a] its.toArray.size (fun i v => its.toArray[i]? = some v) (fun i h => h.IsTupleIter it a i ∧ h.IsTuple a its.toArray) := Draws.tuple (show X.A.in1.handled = none from I.ok.hd hc) it a hai its.toArray
    refine wpAny_pyNext_enum_itemD D he ⟨hit, p⟩ hn hne (by simp [hne, hea]) fun y h' tk hy ho hs' hT hsz hk => ?_
    have : y = u := by
      have e1 : its.toArray[i]? = some u := by simpa using hu
      exact Option.some.inj (hy.symm.trans e1)
    subst this
    refine ⟨_, rfl, wpAny_letOwnedTupleGo_enum (s := { s with heap := h', toks := tk + 1 }) ho fun h'' he' sb => ?_⟩
    have hT2 : h''.get? s.heap.objs.size = some { cls := .type "tuple", data := .seq #[.int i tk, y] } := (sb.2 _ (Nat.ne_of_gt hel)).trans hT
    have new : ObjOk X.prog X.w (upd H s.heap.objs.size (.tup [.int (i : Nat), x])) h'' s.heap.objs.size (.tup [.int (i : Nat), x]) :=
      ⟨by show 2 ≤ sizeLine; decide, [.int i tk, y], .cons ⟨_, rfl⟩ (.cons ru .nil), ⟨_, hT2, rfl, _, rfl⟩⟩
    have I1 : Inv X pins σ (upd H s.heap.objs.size (.tup [.int (i : Nat), x])) { s with heap := h'', toks := tk + 1 } :=
      I.turnedNew (ch := [e, it]) (fun b ob hb q => (sb.2 b (fun z => hb (by simp [z]))).trans (hk b ob (fun z => hb (by simp [z])) (fun z => hb (by simp [z])) q)) hf (Nat.le_refl _) new
    refine ⟨.ref s.heap.objs.size, _, I1, rfl, ⟨_, x, rfl, I.hok.fresh (Nat.le_refl _), rfl, fun ys hy => by rw [I.tuple_inj hy hq]; exact hx⟩, ⟨⟨y, ?_⟩, hs'.1.at fun o q => (sb.2 it (Ne.symm hne)).trans q, hne, hai, hea⟩, fun b hb => ?_⟩
    · have e1 : ((i + 1 : Nat) : Int) = (i : Int) + 1 := by omega
      rw [e1]; exact he'
    · have hb' : b < s.heap.objs.size := by
        rcases (show b = e ∨ b = it by simpa using hb) with z | z
        · rw [z]; exact hel
        · rw [z]; exact hil
      rw [upd_ne (Nat.ne_of_lt hb')]
      exact (hf b hb).1
  done := by
    intro X hP hw hK hc i pins s σ H E I hf st hg
    subst hP hw hK
    obtain ⟨⟨old, he⟩, hit, hne, hai, hea⟩ := st
    obtain ⟨xs, hq, hx⟩ := hg
    obtain ⟨its, rv, p, hz⟩ := I.tuple hq
    obtain ⟨f0, f1, f2, f3, f4, f5⟩ := hf it (by simp)
    have hl := rv.length
    have D : Draws X.prog X.w X.A.in1 it [it, a] i (fun _ _ => False) (fun j h => j = i ∧ h.IsTupleIter it a j ∧ h.IsTuple a its.toArray) :=
      ⟨fun j h st => let ⟨o, ho, _⟩ := st.2.1; ⟨o, ho⟩, fun j h h' st hk => ⟨st.1, st.2.1.at fun o e => hk it (by simp) o e, st.2.2.at fun o e => hk a (by simp) o e⟩,
        fun j s Q E hj st hQ => absurd st.1 (Nat.ne_of_lt hj), fun s Q E st hE => wpAny_nextOf_tuple_end (show X.A.in1.handled = none from I.ok.hd hc) st.2.1 st.2.2 (by simp; omega) hE⟩
    exact wpAny_pyNext_enum_endD D he ⟨rfl, hit, p⟩ fun h' eb => ⟨rfl, I.turned (t' := s.toks) (fun b o hb q => eb b o hb q) f0 f1 f3 f4 f5⟩
  self := fun A i s Q E st h => let ⟨⟨_, he⟩, _⟩ := st; wpAny_pyIter_enum he h
def iEnumA (K : PySem.W.Frag) (ta : TA) : TI := fun σ H R => ta σ H fun vs H1 => ∃ a xs, vs = [.ref a] ∧ ((SqL K H1 a xs ∧ R (Ite K a) H1) ∨ (SqT K H1 a xs ∧ R (IteT K a) H1))
theorem pi_enumA {X : Cx} {e : Expr} {ta : TA} {p pos tpos : Pos} {elts : List Expr} {kk : Nat} (hg : Gl X "enumerate") (hm : X.mg "enumerate" = none) (ha : PA X [e] ta) (hs : starEach [e] X.env = [(false, eval e X.env)] := by rfl) :
    PI X (.Tuple elts kk tpos) (.Call (.Name "enumerate" p) [e] [] pos) (iEnumA X.K ta) := by
  refine ⟨fun pins s σ H R I h => ?_⟩
  refine Call_ (ld_blt I hg hm boot_enumerate (PyProof.Rows.callWith_type1 (thn (ha.run pos pins s σ H _ I h) fun us s1 ⟨vs, H1, I1, r1, q1⟩ => ?_) hs rfl))
  obtain ⟨a, xs, ex, q1⟩ := q1
  subst ex
  cases r1 with
  | cons r rr =>
    cases rr
    cases r
    have fresh : ∀ b, b ∈ [s1.heap.objs.size + 1, s1.heap.objs.size] → FpOk X pins H1 b := fun b hb => by
      have hle : s1.heap.objs.size ≤ b := by
        rcases (show b = s1.heap.objs.size + 1 ∨ b = s1.heap.objs.size by simpa using hb) with z | z
        · rw [z]; exact Nat.le_add_right _ _
        · rw [z]; exact Nat.le_refl _
      exact I1.fpOk hle (I1.hok.fresh hle)
    rcases q1 with ⟨hq, q⟩ | ⟨hq, q⟩
    · obtain ⟨its, rv, p', hz⟩ := I1.list hq
      refine call_enumerate_list p'.isList fun h' he hit hsz hk => wpAny_pyIter_enum he ?_
      have I2 : Inv X pins σ H1 { s1 with heap := h' } := I1.kept (t' := s1.toks) hk
      exact ⟨s1.heap.objs.size + 1, [s1.heap.objs.size + 1, s1.heap.objs.size], _, _, H1, rfl, I2, turn_enum a (s1.heap.objs.size + 1) s1.heap.objs.size, ⟨⟨.none, he⟩, hit, Nat.succ_ne_self _⟩, fresh, q⟩
    · obtain ⟨its, rv, p', hz⟩ := I1.tuple hq
      obtain ⟨o1, ho1, _⟩ := id p'
      have hlt : a < s1.heap.objs.size := Heap.lt_size ho1
      refine call_enum1 (begins_tuple a its.toArray) p' fun h' he hit hk => wpAny_pyIter_enum he ?_
      have I2 : Inv X pins σ H1 { s1 with heap := h' } := I1.kept (t' := s1.toks) hk
      exact ⟨s1.heap.objs.size + 1, [s1.heap.objs.size + 1, s1.heap.objs.size], _, _, H1, rfl, I2, turn_enumT a (s1.heap.objs.size + 1) s1.heap.objs.size, ⟨⟨.none, he⟩, ⟨_, hit, rfl, rfl⟩, Nat.succ_ne_self _, Nat.ne_of_lt hlt, Nat.ne_of_gt (Nat.lt_succ_of_lt hlt)⟩, fresh, q⟩
/-! ### as data -/
section
variable {K : Fg} {X : Cx} {C : XC} {E : XK} {H0 H H' H1 H2 : Hp} {G B : Addr → Prop} {σ : L2.St} {s : S} {tg e a b : Expr} {m ma mb : M} {ml : ML} {pos p p2 : Pos} {es : List Expr}
def numD (i : Nat) : List D → List D
  | [] => []
  | d :: ds => .tuple [.int (i : Nat), d] :: numD (i + 1) ds
theorem numD_len : ∀ {ds : List D} {i : Nat}, (numD i ds).length = ds.length
  | [], _ => rfl
  | d :: ds, i => by rw [numD, List.length_cons, List.length_cons, numD_len]
theorem numD_get : ∀ {ds : List D} {k i : Nat} {d : D}, (numD k ds)[i]? = some d → ∃ x, ds[i]? = some x ∧ d = .tuple [.int ((k + i : Nat) : Int), x]
  | [], _, _, _, h => by cases h
  | x :: ds, k, 0, d, h => by cases h; exact ⟨x, rfl, rfl⟩
  | x :: ds, k, i + 1, d, h => by
    obtain ⟨y, h1, h2⟩ := numD_get (ds := ds) (k := k + 1) (i := i) h
    exact ⟨y, h1, by rw [h2, show k + 1 + i = k + (i + 1) by omega]⟩
def iEnumD (ml : ML) : ML := fun s => (ml s).bind fun ds => match ds with
  | [.list xs] => some (numD 0 xs)
  | [.tuple xs] => some (numD 0 xs)
  | _ => none
theorem num_new {K : Fg} {H : Hp} {T : Addr} {x : V} {d : D} {i : Nat} {B : Addr → Prop} (hT : H T = none) (hx : R K B H x d) : RP K B (upd H T (.tup [.int (i : Nat), x])) (.ref T) (.tuple [.int (i : Nat), d]) :=
  ⟨T, [.int (i : Nat), x], [.int (i : Nat), d], rfl, rfl, .inl (.inl upd_same), .cons (.int _) (.cons (hx.ex (Ex.new hT)) .nil)⟩
theorem i_enum {elts : List Expr} {kk : Nat} {tpos : Pos} (hK : X.K = K) (hg : Gl X "enumerate") (hm : X.mg "enumerate" = none) (ha : XA K X [a] ml) (hs : starEach [a] X.env = [(false, eval a X.env)] := by rfl) :
    PI X (.Tuple elts kk tpos) (.Call (.Name "enumerate" p) [a] [] pos) (iDr (RP K) K (iEnumD ml)) := by
  subst hK
  refine ⟨fun pins s σ H Rr I ⟨H0, G, sd, ds, r, e0, q⟩ => (pi_enumA hg hm ha hs).run pins s σ H Rr I ?_⟩
  obtain ⟨es, ee, e3⟩ := some_bind e0
  clear e0
  refine ⟨H0, G, sd, es, r, ee, fun vs H1 e2 rv => ?_⟩
  split at e3
  · cases e3
    rename_i xs
    cases rv with
    | cons r1 rr =>
    cases rr
    cases r1 with
    | lst t1 a1 =>
      rename_i ta tx
      have st : ∀ H2, Kp G σ sd H1 H2 → SqL X.K H2 ta tx := fun H2 k => t1.elim (fun z => .inl (k.rd z.1 z.2)) .inr
      refine ⟨ta, tx, rfl, .inl ⟨t1.sql, q _ H1 e2 ⟨fun i d H2 hd k => ?_, fun i d H2 x H3 hd k y => ?_, fun H2 k => ⟨tx, st H2 k, ?_⟩⟩⟩⟩
      · obtain ⟨x, hx, _⟩ := numD_get hd
        obtain ⟨v, hv, _⟩ := a1.get hx
        exact ⟨tx, v, st H2 k, hv⟩
      · obtain ⟨T, v, rfl, hT, rfl, h1⟩ := y
        obtain ⟨x, hx, rfl⟩ := numD_get hd
        obtain ⟨v', hv, rv⟩ := a1.get hx
        have w1 := h1 tx (st _ k)
        rw [hv] at w1; cases w1
        rw [Nat.zero_add]
        exact ⟨Ex.new hT, num_new hT (R.kp (r.mono e2) k rv)⟩
      · rw [a1.length, numD_len]
        exact Nat.le_refl _
  · cases e3
    rename_i xs
    cases rv with
    | cons r1 rr =>
    cases rr
    cases r1 with
    | tup t1 a1 =>
      rename_i ta tx
      have st : ∀ H2, Kp G σ sd H1 H2 → SqT X.K H2 ta tx := fun H2 k => (k.sqt (r.mono e2) t1).sqt
      refine ⟨ta, tx, rfl, .inr ⟨t1.sqt, q _ H1 e2 ⟨fun i d H2 hd k => ?_, fun i d H2 x H3 hd k y => ?_, fun H2 k => ⟨tx, st H2 k, ?_⟩⟩⟩⟩
      · obtain ⟨x, hx, _⟩ := numD_get hd
        obtain ⟨v, hv, _⟩ := a1.get hx
        exact ⟨tx, v, st H2 k, hv⟩
      · obtain ⟨T, v, rfl, hT, rfl, h1⟩ := y
        obtain ⟨x, hx, rfl⟩ := numD_get hd
        obtain ⟨v', hv, rv⟩ := a1.get hx
        have w1 := h1 tx (st _ k)
        rw [hv] at w1; cases w1
        rw [Nat.zero_add]
        exact ⟨Ex.new hT, num_new hT (R.kp (r.mono e2) k rv)⟩
      · rw [a1.length, numD_len]
        exact Nat.le_refl _
  · cases e3
/-- for i, x in enumerate(..): in a statement -/
theorem s_forP {it : Expr} {body : List Stmt} {g : MG} {ts : List Nat} {mb : MS} (hp : PassesOwn (model X.prog X.w) X.A X.env X.xe) (hc : X.calm = true) (hi : PI X tg it (iDr (RP K) K ml)) (hg : PG X tg (gDr (RP K) K ts g)) (hb : XSs K C E X body mb) (hs : ∀ x, foldedSetIterable it X.env x = pure x := by intro _; rfl) :
    XS K C E X (.For tg it body [] pos) (mForS ml g mb) := s_forR (rl := RP K) (wideP K) hp hc hi hg hb hs
end
end DD

/-! # try with two clauses that name what they caught -/
namespace DD
variable [LTb]
open PySem PySem.Spec PyProof.Rows L2
/-- the exception at a has come to this def's ground: what its clauses find -/
structure Ground (X : Cx) (pins : List (Addr × Obj)) (B : Heap) (sI : Shared) (a : Addr) (cls : Value) (d : Option Addr) (σ : L2.St) (H : Hp) (s' : Shared) (h3 : Heap) : Prop where
  hs : X.stack = X.env :: X.outer
  hf : X.env.frame = some X.env.locals
  J : Inv X pins σ H sI
  nb : ∀ b o, sI.heap.get? b = some o → b ∉ frs X.stack → B.get? b = some o
  up : sI.heap.UpToSlots h3
  fl : HandSPX.FlyingZ B (X.env :: X.outer) a (L2N.Zn cls d) h3
  na : H a = none
  os : s'.os = sI.os
  ag : AllBare s'.gens
section
variable {X : Cx} {pins : List (Addr × Obj)} {B : Heap} {sI : Shared} {a : Addr} {cls : Value} {d : Option Addr} {σ : L2.St} {H : Hp} {s' : Shared} {h3 : Heap}
theorem Ground.inv (g : Ground X pins B sI a cls d σ H s' h3) : Inv X pins σ H { s' with heap := h3 } := g.J.landed g.nb g.fl.1 g.up g.os g.ag
theorem Ground.off (g : Ground X pins B sI a cls d σ H s' h3) : a ≠ X.env.locals ∧ a ∉ X.fs := by
  obtain ⟨oe, vs, he, _, hd⟩ := g.fl.there
  have n : a ∉ frs (X.env :: X.outer) := fun hm => by
    obtain ⟨_, o, e, z⟩ := g.fl.2.2.1.mem hm
    rw [he] at e; cases e
    exact z _ hd
  refine ⟨fun z => n (List.mem_filterMap.mpr ⟨X.env, List.mem_cons_self, by rw [g.hf, z]⟩), fun hm => ?_⟩
  obtain ⟨e, he, q⟩ := List.mem_filterMap.mp hm
  exact n (List.mem_filterMap.mpr ⟨e, List.mem_cons_of_mem _ he, q⟩)
theorem Ground.inS (g : Ground X pins B sI a cls d σ H s' h3) : ∃ oe, h3.get? a = some oe ∧ L2N.Zn cls d oe ∧ (∃ vs, oe.data = .fields vs) ∧ Inv (X.suite a ((a, oe) :: (X.pn ++ pins))) [] σ H { s' with heap := h3 } := by
  obtain ⟨oe, vs, he, hz, hd⟩ := g.fl.there
  exact ⟨oe, he, hz, ⟨vs, hd⟩, g.inv.suite he hd g.na g.off.1 g.off.2⟩
theorem Ground.again (g : Ground X pins B sI a cls d σ H s' h3) {h4 : Heap} (fl : HandSPX.FlyingZ B (X.env :: X.outer) a (L2N.Zn cls d) h4) (up : h3.UpToSlots h4) : Ground X pins B sI a cls d σ H s' h4 := ⟨g.hs, g.hf, g.J, g.nb, g.up.trans up, fl, g.na, g.os, g.ag⟩
/-- no clause is left -/
theorem Ground.out (g : Ground X pins B sI a cls d σ H s' h3) {W : WX} {D : Ends} (tk : L2N.Takes X W) (w : W cls d σ H) : wpAny (model X.prog X.w) X.A (handleBy (.ref a) X.env []) (SP X pins D) X.xe { s' with heap := h3 } := by
  refine wpAny_handleBy_nil ?_
  obtain ⟨_, _, _, oe, vs, T, oT, ts, he, hz, hd, h1, hr⟩ := id g.fl
  unfold PySem.passOn
  refine wpAny_bind (wpAny_field he hd h1 ?_)
  rw [if_neg (show ¬ ((Value.ref T == Value.none) = true) from by simp)]
  have fin : wpAny (model X.prog X.w) X.A (setFlight (.ref a) X.env.frame) (fun _ s4 => wpAny (model X.prog X.w) X.A (throw (.ref a) : Sem Flow) (SP X pins D) X.xe s4) X.xe { s' with heap := h3 } := by
    rw [g.hf]
    exact HandSPX.setFlight_upZ g.fl fun h4 hh up => wpAny_throw (tk _ _ ⟨a, B, sI, pins, σ, H, cls, d, rfl, g.J, g.nb, g.up.trans up, .inr (.inr (by rw [g.hs]; exact hh)), g.na, g.os, g.ag, w⟩)
  first
    | exact wpAny_bind (wpAny_pure (wpAny_bind fin))
    | exact wpAny_bind fin
/-- one clause -/
theorem Ground.clause (g : Ground X pins B sI a cls d σ H s' h3) {x n : Str} {c : Value} {i : Nat} {np pos : Pos} {b₀ : Stmt} {suite : List Stmt} {hds : List ExceptHandler} {ts : Addr → Value → Option Addr → TS} {W : WX} {D : Ends} (hN : X.N.Nodup) (hi : X.N[i]? = some n) (hln : X.env.kindOf n = some .local) (hc : Names X x c)
    (hsu : ∀ (a : Addr) (oe : Obj) (cls : Value) (d : Option Addr) (pn : List (Addr × Obj)), L2N.Zn cls d oe → (∃ vs, oe.data = .fields vs) → PSs (X.suite a ((a, oe) :: pn)) (b₀ :: suite) (ts a cls d))
    (next : W cls d σ H → wpAny (model X.prog X.w) X.A (handleBy (.ref a) X.env hds) (SP X pins D) X.xe { s' with heap := h3 }) (w : wAs X.K c i ts W D cls d σ H) :
    wpAny (model X.prog X.w) X.A (handleBy (.ref a) X.env (.ExceptHandler (some (.Name x np)) (some n) (b₀ :: suite) pos :: hds)) (SP X pins D) X.xe { s' with heap := h3 } := by
  obtain ⟨b, hb, yes, no⟩ := w
  obtain ⟨oe, he, hz, hd, S3⟩ := g.inS
  have ok := g.J.ok
  have look : PySem.W.Looks (model X.prog X.w) h3 (typeOf (.ref a)) cls := fun A Q E s k q => wpAny_typeOf_ref (k _ _ he) (by rw [hz.1]; exact q)
  have mt := PySem.W.exm_one (M := model X.prog X.w) g.inv.kIn look hb
  have test : ∀ {Q E : Value → Shared → Prop}, Q c { s' with heap := h3 } → wpAny (model X.prog X.w) (X.A.mark (some (.ref a))) (eval (.Name x np) X.env) Q E { s' with heap := h3 } := fun {Q E} q => by
    obtain ⟨hg, hd, z⟩ := hc
    rcases z with hm | ⟨hm, hv, hn⟩
    · exact ld_glob (X := X.suite a ((a, oe) :: (X.pn ++ pins))) S3 hg hm q hd
    · exact ld_blt (X := X.suite a ((a, oe) :: (X.pn ++ pins))) S3 hg hm hv q hn hd
  refine wpAny_handleBy_cons (codeAny_handlers_test ?_) (by intro q; cases q)
  refine test (mt.here ?_)
  cases b with
  | false => exact next (no rfl)
  | true =>
    refine codeAny_handlers_suite_as ?_
    refine HandSPX.lands_againZ g.fl fun h4 fl4 up4 => ?_
    obtain ⟨oe4, he4, hz4, hd4, S4⟩ := (g.again fl4 up4).inS
    refine store_ok (X := X.suite a ((a, oe4) :: (X.pn ++ pins))) (v := .ref a) S4 hN hi (.inl hln) rfl (fun s5 S5 => ?_) (.inr hln)
    refine wpAny_mono ((hsu a oe4 cls d (X.pn ++ pins) hz4 hd4).run [] s5 _ H _ S5 (yes rfl a g.na)) (fun f s6 z => ?_) (fun _ _ z => False.elim z)
    have gone : ∀ {σ6 : L2.St} {H6 : Hp} {Q : Shared → Prop}, Inv (X.suite a ((a, oe4) :: (X.pn ++ pins))) [] σ6 H6 s6 → (∀ s7, Inv X pins (σ6.set i none) H6 s7 → Q s7) → wpAny (model X.prog X.w) X.A (do bindName X.env n .none; unbindBehindTheSuite X.env n pos) (fun _ s7 => Q s7) X.xe s6 :=
      fun {σ6 H6 Q} S6 q => gone_ok (S6.unsuite ok) hN hi hln q
    cases f with
    | next => obtain ⟨_, _, S6, q⟩ := z; exact gone S6 fun s7 J => ⟨_, _, J, q⟩
    | brk => obtain ⟨_, _, S6, q⟩ := z; exact gone S6 fun s7 J => ⟨_, _, J, q⟩
    | cont => obtain ⟨_, _, S6, q⟩ := z; exact gone S6 fun s7 J => ⟨_, _, J, q⟩
    | ret u => obtain ⟨_, _, _, S6, r, q⟩ := z; exact gone S6 fun s7 J => ⟨_, _, _, J, r, q⟩
end
section
variable {X : Cx} {x1 x2 n : Str} {c1 c2 : Value} {i : Nat} {body su1 su2 : List Stmt} {b1 b2 : Stmt} {np1 np2 pos pos1 pos2 : Pos} {tb : WX → TS} {t1 t2 : Addr → Value → Option Addr → TS} {Wout : WX}
theorem ps_try2 (hs : X.stack = X.env :: X.outer) (hf : X.env.frame = some X.env.locals) (hN : X.N.Nodup) (hi : X.N[i]? = some n) (hln : X.env.kindOf n = some .local) (hc1 : Names X x1 c1) (hc2 : Names X x2 c2) (tk : L2N.Takes X Wout)
    (hb : ∀ (W : WX) (pn : List (Addr × Obj)) (xe : Value → Shared → Prop), L2N.Takes (X.tr pn xe) W → PassesOwn (model X.prog X.w) X.A X.env xe → PSs (X.tr pn xe) body (tb W))
    (hsu1 : ∀ (a : Addr) (oe : Obj) (cls : Value) (d : Option Addr) (pn : List (Addr × Obj)), L2N.Zn cls d oe → (∃ vs, oe.data = .fields vs) → PSs (X.suite a ((a, oe) :: pn)) (b1 :: su1) (t1 a cls d))
    (hsu2 : ∀ (a : Addr) (oe : Obj) (cls : Value) (d : Option Addr) (pn : List (Addr × Obj)), L2N.Zn cls d oe → (∃ vs, oe.data = .fields vs) → PSs (X.suite a ((a, oe) :: pn)) (b2 :: su2) (t2 a cls d)) :
    PS X (.Try body [.ExceptHandler (some (.Name x1 np1)) (some n) (b1 :: su1) pos1, .ExceptHandler (some (.Name x2 np2)) (some n) (b2 :: su2) pos2] [] [] pos) (fun D σ H => tb (wAs X.K c1 i t1 (wAs X.K c2 i t2 Wout D) D) D σ H) := by
  refine ⟨fun pins s σ H D I h => ?_⟩
  have ok := I.ok
  refine wpAny_Try_except (wpAny_mono ((hb (wAs X.K c1 i t1 (wAs X.K c2 i t2 Wout D) D) (X.pn ++ pins) (fun e s1 => wpAny (model X.prog X.w) X.A (noteFrame e X.env) (fun _ s2 => wpAny (model X.prog X.w) X.A (setFlight e none) (fun _ s3 =>
    wpAny (model X.prog X.w) X.A (handleBy e X.env [.ExceptHandler (some (.Name x1 np1)) (some n) (b1 :: su1) pos1, .ExceptHandler (some (.Name x2 np2)) (some n) (b2 :: su2) pos2]) (SP X pins D) X.xe s3) X.xe s2) X.xe s1) (fun u s' z => ?_) PassesOwn.looking).run [] s σ H D (I.toTry _) h) (fun f s1 z => ?_) (fun e s1 he => he))
  · obtain ⟨a, B, sI, pins', σ', H', cls, d, rfl, J, nb, up, sky, na, os, ag, w⟩ := z
    refine L2N.Sky.land L2N.Zn.steady (show X.A.frames = some (X.env :: X.outer) by rw [ok.frames, hs]) hf (show Sky B (X.env :: X.outer) a (L2N.Zn cls d) X.env.locals s'.heap by rw [← hs]; exact sky) fun h3 fl up3 => ?_
    have g : Ground X pins B sI a cls d σ' H' s' h3 := ⟨hs, hf, J.ofTry ok, nb, up.trans up3, fl, na, os, ag⟩
    exact g.clause hN hi hln hc1 hsu1 (fun w => g.clause hN hi hln hc2 hsu2 (fun w => g.out tk w) w) w
  · cases f with
    | next => obtain ⟨_, _, J, q⟩ := z; exact wpAny_execs_nil ⟨_, _, J.ofTry ok, q⟩
    | brk => obtain ⟨_, _, J, q⟩ := z; exact ⟨_, _, J.ofTry ok, q⟩
    | cont => obtain ⟨_, _, J, q⟩ := z; exact ⟨_, _, J.ofTry ok, q⟩
    | ret u => obtain ⟨_, _, _, J, r, q⟩ := z; exact ⟨_, _, _, J.ofTry ok, r, q⟩
end
/-! ### as data -/
noncomputable def mTry2 (i j n : Nat) (f : MF) (ml : ML) (nm1 : Str → List Str) (hit1 : Str → Bool) (ms1 : Str → Addr → Addr → MS) (nm2 : Str → List Str) (hit2 : Str → Bool) (ms2 : Str → Addr → Addr → MS) : MS := fun s => match ml s with
  | none => .no
  | some ds => if ds.length = n then (match f ds with
    | .ex c fs => if hit1 c = true then uniO fun a dd => clearO j (ms1 c a dd (s.set j (some (.kd (.exc a dd (fieldsD (nm1 c) fs))))))
      else if hit2 c = true then uniO fun a dd => clearO j (ms2 c a dd (s.set j (some (.kd (.exc a dd (fieldsD (nm2 c) fs)))))) else .no
    | o => match callR o with
      | some d => .nx (s.set i (some (.sh d)))
      | none => .no) else .no
section
variable {K : Fg} {X : Cx} {C : XC} {E : XK} {ml : ML} {x cx1 cx2 nm : Str} {tab : Tab} {k k' n i j : Nat} {f : MF} {p np1 np2 pos pos1 pos2 : Pos} {st b1 b2 : Stmt} {su1 su2 : List Stmt} {nm1 nm2 : Str → List Str} {hit1 hit2 : Str → Bool} {ms1 ms2 : Str → Addr → Addr → MS} {cv1 cv2 : Value}
theorem s_try2 (hK : X.K = K) (hs : X.stack = X.env :: X.outer) (hf : X.env.frame = some X.env.locals) (hN : X.N.Nodup) (hj : X.N[j]? = some nm) (hln : X.env.kindOf nm = some .local) (hc1 : Names X cx1 cv1) (hc2 : Names X cx2 cv2)
    (hset : ∀ (W : WX) (pn : List (Addr × Obj)) (xe : Value → Shared → Prop), L2N.Takes (X.tr pn xe) W → PS (X.tr pn xe) st (tAsg (tCallSD (spD K (CXC K tab) n f) [] (WE W) (tAb K ml)) (gName i)))
    (hex1 : ∀ c C ns, tab c = some (C, ns) → hit1 c = true → PySem.W.exmOne K (.ref C) cv1 = some true ∧ ns = nm1 c)
    (hex2 : ∀ c C ns, tab c = some (C, ns) → hit2 c = true → PySem.W.exmOne K (.ref C) cv1 = some false ∧ PySem.W.exmOne K (.ref C) cv2 = some true ∧ ns = nm2 c)
    (hsu1 : ∀ (c : Str) (Ca a dd : Addr) (ns : List Str) (oe : Obj) (pn : List (Addr × Obj)), tab c = some (Ca, ns) → hit1 c = true → L2N.Zn (.ref Ca) (some dd) oe → (∃ vs, oe.data = .fields vs) → XSs K C0 E0 (X.suite a ((a, oe) :: pn)) (b1 :: su1) (ms1 c a dd))
    (hsu2 : ∀ (c : Str) (Ca a dd : Addr) (ns : List Str) (oe : Obj) (pn : List (Addr × Obj)), tab c = some (Ca, ns) → hit2 c = true → L2N.Zn (.ref Ca) (some dd) oe → (∃ vs, oe.data = .fields vs) → XSs K C0 E0 (X.suite a ((a, oe) :: pn)) (b2 :: su2) (ms2 c a dd)) :
    XS K C E X (.Try [st] [.ExceptHandler (some (.Name cx1 np1)) (some nm) (b1 :: su1) pos1, .ExceptHandler (some (.Name cx2 np2)) (some nm) (b2 :: su2) pos2] [] [] pos) (mTry2 i j n f ml nm1 hit1 ms1 nm2 hit2 ms2) := by
  subst hK
  have suite : ∀ {hit : Str → Bool} {ms : Str → Addr → Addr → MS} {bs : List Stmt}, (∀ (c : Str) (Ca a dd : Addr) (ns : List Str) (oe : Obj) (pn : List (Addr × Obj)), tab c = some (Ca, ns) → hit c = true → L2N.Zn (.ref Ca) (some dd) oe → (∃ vs, oe.data = .fields vs) → XSs X.K C0 E0 (X.suite a ((a, oe) :: pn)) bs (ms c a dd)) →
      ∀ (a : Addr) (oe : Obj) (cls : Value) (d : Option Addr) (pn : List (Addr × Obj)), L2N.Zn cls d oe → (∃ vs, oe.data = .fields vs) → PSs (X.suite a ((a, oe) :: pn)) bs (fun Dn σ H => ∃ c C ns dd, cls = .ref C ∧ d = some dd ∧ tab c = some (C, ns) ∧ hit c = true ∧ sD X.K C0 E0 (ms c a dd) Dn σ H) :=
    fun {hit ms bs} hsu a oe cls d pn hz hfl => ⟨fun pins s σ H Dn I ⟨c, C, ns, dd, e1, e2, h1, h2, h3⟩ => by
      subst e1 e2
      exact (hsu c C a dd ns oe pn h1 h2 hz hfl).run pins s σ H Dn I h3⟩
  refine ps_imp (ps_try2 (i := j) (Wout := fun _ _ _ _ => False) (tb := fun W => tAsg (tCallSD (spD X.K (CXC X.K tab) n f) [] (WE W) (tAb X.K ml)) (gName i))
    hs hf hN hj hln hc1 hc2 takesN0 (fun W pn xe tk _ => pss_one (hset W pn xe tk)) (suite hsu1) (suite hsu2)) ?_
  intro Dn σ H ⟨H0, G, s, r, q⟩
  unfold mTry2 at q
  cases hm : ml s with
  | none => rw [hm] at q; exact q.elim
  | some ds =>
    simp only [hm] at q
    by_cases hn : ds.length = n
    · rw [if_pos hn] at q
      refine ⟨H0, G, s, ds, r, hm, fun vs H1 e1 rv => ⟨fun _ => True, ds, hn, by rw [List.append_nil]; exact rv, e1.tb r.tb, ?_⟩⟩
      have r1 := r.mono e1
      have norm : ∀ {o : Out} {d : D}, callR o = some d → Post X.K H0 G C E σ s H Dn (match callR o with
          | some d => .nx (s.set i (some (.sh d)))
          | none => .no) → ∀ v H2, Ex H1 H2 → R X.K (Cl G σ s) H2 v d → Dn.nx (σ.set i (some v)) H2 := fun {o d} ho hq v H2 e2 hv => by
        rw [ho] at hq
        exact hq _ H2 ((r1.mono e2).set i hv) ((Tr.set (H := H2) i).ex (e1.trans e2))
      have one : ∀ {c : Str} {fs : List D} {nms : Str → List Str} {ms : Str → Addr → Addr → MS} {Ca a dd : Addr} {ns : List Str} {us : List V} {H2 : Hp}, Post X.K H0 G C E σ s H Dn (uniO fun a dd => clearO j (ms c a dd (s.set j (some (.kd (.exc a dd (fieldsD (nms c) fs))))))) → ns = nms c → Ex H1 H2 →
          H2 dd = some (.xd (fieldsOf ns us)) → ns.length = us.length → RA X.K (fun _ => False) H2 us fs →
          sD X.K C0 E0 (ms c a dd) { nx := fun σ' H' => Dn.nx (σ'.set j none) H', rt := Dn.rt, bk := fun σ' H' => Dn.bk (σ'.set j none) H', ct := fun σ' H' => Dn.ct (σ'.set j none) H' } (σ.set j (some (.ref a))) H2 := by
        intro c fs nms ms Ca a dd ns us H2 hq hns e2 hd hl ra
        refine ⟨H0, G, _, (r1.mono e2).setS j (has_exc (a := a) hd hl ra), ?_⟩
        rw [hns]
        have tr : Tr σ s H (σ.set j (some (V.ref a))) (s.set j (some (.kd (.exc a dd (fieldsD (nms c) fs))))) H2 := (Tr.setK (H := H2) j).ex (e1.trans e2)
        generalize hu : (uniO fun a dd => clearO j (ms c a dd (s.set j (some (.kd (.exc a dd (fieldsD (nms c) fs))))))) = o at hq
        by_cases hno : o = .no
        · rw [hno] at hq; exact hq.elim
        · have h5 := uniO_ne hu hno a dd
          exact clear_post (by rw [h5]; exact hno) (by rw [h5]; exact hq) tr
      cases ho : f ds with
      | nx s' =>
        rw [ho] at q
        exact fun H2 e2 => norm (o := .nx s') rfl q _ H2 e2 .non
      | rt d =>
        rw [ho] at q
        dsimp only at q
        cases hcr : callR (.rt d) with
        | none => rw [hcr] at q; exact q.elim
        | some d' =>
          have hcr' := hcr
          obtain ⟨hfd, e⟩ := if_some (show (if flatD d = true then some d else none) = some d' from hcr')
          cases e
          exact fun v H2 e2 hv => norm (o := .rt d) hcr q _ H2 e2 (R.flat _ _ hfd hv)
      | rtl es =>
        rw [ho] at q
        dsimp only at q
        cases hcr : callR (.rtl es) with
        | none => rw [hcr] at q; exact q.elim
        | some d' =>
          have hcr' := hcr
          obtain ⟨hfd, e⟩ := if_some (show (if flatD.go es = true then some (PyData.list es) else none) = some d' from hcr')
          cases e
          exact fun p xs H2 hp e2 h2 ra => norm (o := .rtl es) hcr q _ H2 e2 (.lst (.inl ⟨⟨r1.new p hp, r1.own_not hp⟩, .inl h2⟩) (RA.flat _ _ hfd ra))
      | ex c fs =>
        rw [ho] at q
        dsimp only at q
        by_cases g1 : hit1 c = true
        · rw [if_pos g1] at q
          rintro cls d H2 e2 ⟨Ca, ns, dd, us, ht, rfl, rfl, hd, hl, ra⟩
          obtain ⟨x1, x2⟩ := hex1 c Ca ns ht g1
          exact ⟨true, x1, fun _ a na => ⟨c, Ca, ns, dd, rfl, rfl, ht, g1, one (Ca := Ca) q x2 e2 hd hl ra⟩, fun z => nomatch z⟩
        · rw [if_neg g1] at q
          by_cases g2 : hit2 c = true
          · rw [if_pos g2] at q
            rintro cls d H2 e2 ⟨Ca, ns, dd, us, ht, rfl, rfl, hd, hl, ra⟩
            obtain ⟨x1, x2, x3⟩ := hex2 c Ca ns ht g2
            exact ⟨false, x1, (fun z => nomatch z), fun _ => ⟨true, x2, fun _ a na => ⟨c, Ca, ns, dd, rfl, rfl, ht, g2, one (Ca := Ca) q x3 e2 hd hl ra⟩, fun z => nomatch z⟩⟩
          · rw [if_neg g2] at q
            exact q.elim
      | bk s' => rw [ho] at q; exact q.elim
      | ct s' => rw [ho] at q; exact q.elim
      | no => rw [ho] at q; exact q.elim
    · rw [if_neg hn] at q
      exact q.elim
end
end DD

/-! # Dicts as data: made, asked, written -/
namespace DD
variable [LTb]
open PySem PySem.Spec PyProof.Rows L2
section
variable {K : Fg} {B : Addr → Prop} {H : Hp}
mutual
theorem R.fx : ∀ (d : D) (v : V), flatD d = true → R K B H v d → FX K H v d
  | .none, _, _, h => by cases h; exact .non
  | .bool b, _, _, h => by cases h; exact .bl b
  | .int i, _, _, h => by cases h; exact .int i
  | .str x, _, _, h => by cases h with | str q => exact .str q
  | .list ds, _, f, h => by simp [flatD] at f
  | .tuple ds, _, f, h => by
    cases h with
    | tup hr ha => exact .tup hr (RA.fx ds _ (by simpa only [flatD] using f) ha)
  | .dict _, _, f, h => by simp [flatD] at f
theorem RA.fx : ∀ (ds : List D) (vs : List V), flatD.go ds = true → RA K B H vs ds → FXs K H vs ds
  | [], _, _, h => by cases h; exact .nil
  | d :: ds, _, f, h => by
    cases h with
    | cons h1 h2 =>
      have f' : flatD d = true ∧ flatD.go ds = true := by simpa only [flatD.go, Bool.and_eq_true] using f
      exact .cons (R.fx d _ f'.1 h1) (RA.fx ds _ f'.2 h2)
end
mutual
theorem FX.r : ∀ (d : D) (v : V), FX K H v d → R K B H v d
  | .none, _, h => by cases h; exact .non
  | .bool b, _, h => by cases h; exact .bl b
  | .int i, _, h => by cases h; exact .int i
  | .str x, _, h => by cases h with | str q => exact .str q
  | .list ds, _, h => by cases h
  | .tuple ds, _, h => by
    cases h with
    | tup hr ha => exact .tup hr (FXs.r ds _ ha)
  | .dict _, _, h => by cases h
theorem FXs.r : ∀ (ds : List D) (vs : List V), FXs K H vs ds → RA K B H vs ds
  | [], _, h => by cases h; exact .nil
  | d :: ds, _, h => by
    cases h with
    | cons h1 h2 => exact .cons (FX.r d _ h1) (FXs.r ds _ h2)
end
mutual
theorem key_flat : ∀ (d : D) (k : NestedKey), keyN d = some k → flatD d = true
  | .int _, _, _ => by simp [flatD]
  | .tuple ds, k, h => by
    simp only [keyN] at h
    obtain ⟨ks, e, _⟩ := opt_mapN h
    simp only [flatD]
    exact keys_flat ds ks e
  | .none, _, h => by simp [keyN] at h
  | .bool _, _, h => by simp [keyN] at h
  | .str _, _, h => by simp [keyN] at h
  | .list _, _, h => by simp [keyN] at h
  | .dict _, _, h => by simp [keyN] at h
theorem keys_flat : ∀ (ds : List D) (ks : List NestedKey), keyNs ds = some ks → flatD.go ds = true
  | [], _, _ => by simp [flatD.go]
  | d :: ds, ks, h => by
    simp only [keyNs] at h
    cases ek : keyN d with
    | none => rw [ek] at h; cases h
    | some k =>
      rw [ek] at h
      obtain ⟨ks', e2, _⟩ := opt_mapN h
      simp only [flatD.go, key_flat d k ek, keys_flat ds ks' e2, Bool.and_self]
end
end
/-- a key's value -/
def lookD (kvs : List (D × D)) (k : NestedKey) : Option D := (kvs.find? fun q => decide (keyN q.1 = some k)).map (·.2)
theorem rows_look {K : Fg} {H : Hp} : ∀ {L : Rows} {kvs : List (D × D)} (k : NestedKey), Paired (RowD K H) L kvs → (lookN L k = none ∧ lookD kvs k = none) ∨ ∃ v d, lookN L k = some v ∧ lookD kvs k = some d ∧ FX K H v d
  | [], [], k, .nil => .inl ⟨rfl, rfl⟩
  | p :: L, q :: kvs, k, .cons h t => by
    unfold lookN lookD
    rw [List.find?_cons, List.find?_cons]
    by_cases e : p.1 = k
    · have e' : keyN q.1 = some k := by rw [h.1, e]
      simp only [e, e', decide_true]
      exact .inr ⟨_, _, rfl, rfl, h.2.2.2⟩
    · have e' : ¬ keyN q.1 = some k := fun z => e (Option.some.inj (h.1.symm.trans z))
      simp only [e, e', decide_false]
      exact rows_look k t
theorem rows_at {K : Fg} {H : Hp} : ∀ {L : Rows} {kvs : List (D × D)}, Paired (RowD K H) L kvs → KeysAt K H L
  | [], [], .nil => fun _ h => by cases h
  | p :: L, q :: kvs, .cons h t => fun x hx => by
    rcases List.mem_cons.mp hx with e | e
    · rw [e]; exact ⟨FX.kx _ _ _ h.1 h.2.2.1, h.2.1⟩
    · exact rows_at t x e
/-- a row put in -/
def putD (kvs : List (D × D)) (k : NestedKey) (kd d : D) : List (D × D) := if (lookD kvs k).isSome = true then kvs.map fun q => if keyN q.1 = some k then (q.1, d) else q else kvs ++ [(kd, d)]
theorem rows_repl {K : Fg} {H : Hp} {k : NestedKey} {v : V} {d : D} (hv : FX K H v d) : ∀ {L : Rows} {kvs : List (D × D)}, Paired (RowD K H) L kvs → Paired (RowD K H) (L.map fun x => if x.1 = k then (x.1, x.2.1, v) else x) (kvs.map fun q => if keyN q.1 = some k then (q.1, d) else q)
  | [], [], .nil => .nil
  | p :: L, q :: kvs, .cons h t => by
    rw [List.map_cons, List.map_cons]
    refine .cons ?_ (rows_repl hv t)
    by_cases e : p.1 = k
    · rw [if_pos e, if_pos (by rw [h.1, e])]
      exact ⟨h.1, h.2.1, h.2.2.1, hv⟩
    · rw [if_neg e, if_neg (fun z => e (Option.some.inj (h.1.symm.trans z)))]
      exact h
theorem rows_put {K : Fg} {H : Hp} {L : Rows} {kvs : List (D × D)} {k : NestedKey} {b : Addr} {v : V} {kd d : D} (h : Paired (RowD K H) L kvs) (ek : keyN kd = some k) (hd : k.depth ≤ 8) (hk : FX K H (.ref b) kd) (hv : FX K H v d) : Paired (RowD K H) (putN L k b v) (putD kvs k kd d) := by
  unfold putN putD
  rcases rows_look k h with ⟨h1, h2⟩ | ⟨x, y, h1, h2, _⟩
  · rw [h1, h2, if_neg (by simp), if_neg (by simp)]
    exact Paired.snoc h ⟨ek, hd, hk, hv⟩
  · rw [h1, h2, if_pos (by simp), if_pos (by simp)]
    exact rows_repl hv h
theorem rows_len {K : Fg} {H : Hp} {L : Rows} {kvs : List (D × D)} (h : Paired (RowD K H) L kvs) : L.length = kvs.length := Paired.length h
section
variable {K : Fg} {X : Cx} {C : XC} {E : XK} {H0 H H' : Hp} {G : Addr → Prop} {σ : L2.St} {s : S} {a b e : Expr} {m ma mb : M} {pos pos' : Pos} {st : Stmt}
/-- these rows are no object's -/
def noObj : List (D × D) → Bool
  | (.dict _, _) :: _ => false
  | _ => true
/-- the dict that stands at a borrowed value -/
theorem RB.dic {v : V} {kvs : List (D × D)} (r : RS K H0 G σ H s) (e : Ex H H') (hn : noObj kvs = true) (h : RB K G σ s H' v (.dict kvs)) : ∃ a L, v = .ref a ∧ Rd H' a (DicN a L) ∧ Paired (RowD K H') L kvs := by
  rcases h with h | ⟨i, c, h1, h2, h3⟩
  · cases h with
    | dic _ hr hp => exact ⟨_, _, rfl, hr, hp⟩
    | obj _ _ _ _ => cases hn
  · cases c with
    | lst _ => cases h3
    | dic kvs' =>
      cases h3
      obtain ⟨a, L, e1, e2, _, _, e3⟩ := (r.mono e).owD i _ h1
      rw [h2] at e1; cases e1
      exact ⟨a, L, rfl, .inl e2, e3⟩
/-- a key that is a reference -/
theorem RB.keyR {v : V} {kd : D} {k : NestedKey} (h : RB K G σ s H' v kd) (hk : keyN kd = some k) (ht : ∀ i, kd ≠ .int i) : ∃ b, v = .ref b ∧ FX K H' (.ref b) kd := by
  have f := key_flat _ _ hk
  have h' : R K (Cl G σ s) H' v kd := h.plain (fun ds z => by subst z; simp [flatD] at f) (fun ds z => by subst z; simp [flatD] at f)
  have hx := R.fx _ _ f h'
  cases hx with
  | tup h1 h2 => exact ⟨_, rfl, .tup h1 h2⟩
  | int i => exact (ht i rfl).elim
  | _ => simp [keyN] at hk
def tupB : D → Bool
  | .tuple _ => true
  | _ => false
theorem tupB_ne {d : D} (h : tupB d = true) : ∀ i, d ≠ .int i := fun i e => by subst e; cases h
/-- d[k] -/
def fDGet : D → D → Option D := fun c kd => match c with
  | .dict kvs => (keyN kd).bind fun k => if k.depth ≤ 8 ∧ tupB kd = true ∧ noObj kvs = true then lookD kvs k else none
  | _ => none
theorem x_dget {k : Nat} (hK : X.K = K) (hr : Room k X.A) (ha : XB K X a ma) (hb : XB K X b mb) (hs : NoSl b := by exact fun _ _ => rfl) : XE K X (.Subscript a b pos) (m2 fDGet ma mb) := by
  subst hK
  refine pe_imp (pe_nget (by have := hr.un; omega) ha hb hs) fun σ H Q ⟨H0, G, s, d, rs, e, q⟩ => ?_
  obtain ⟨x, ex, e⟩ := some_bind e
  obtain ⟨y, ey, ez⟩ := some_bind e
  refine ⟨H0, G, s, x, rs, ex, fun v H1 e1 rv => ⟨H0, G, s, y, rs.mono e1, ey, fun u H2 e2 ru => ?_⟩⟩
  unfold fDGet at ez
  split at ez
  · rename_i kvs
    obtain ⟨kk, hk, ez⟩ := some_bind ez
    obtain ⟨⟨hd, ht, hn⟩, ez⟩ := if_some ez
    obtain ⟨a', L, rfl, hr', hp⟩ := RB.dic rs e1 hn rv
    obtain ⟨b', rfl, hx⟩ := RB.keyR ru hk (tupB_ne ht)
    have hp' := rows_to (fun _ _ z => e2.sqt z) hp
    rcases rows_look kk hp' with ⟨_, h2⟩ | ⟨v', d', h1, h2, h3⟩
    · rw [h2] at ez; cases ez
    · rw [h2] at ez; cases ez
      exact ⟨a', b', L, kk, v', rfl, rfl, e2.rd hr', rows_at hp', FX.kx _ _ _ hk hx, hd, h1, q _ H2 (e1.trans e2) (FX.r _ _ h3)⟩
  · cases ez
/-- k in d, k not in d -/
def fDIn (n : Bool) : D → D → Option D := fun kd c => match c with
  | .dict kvs => (keyN kd).bind fun k => if k.depth ≤ 8 ∧ tupB kd = true ∧ noObj kvs = true then some (.bool (if n then !(lookD kvs k).isSome else (lookD kvs k).isSome)) else none
  | _ => none
theorem rdDIn {n : Bool} {Q : VK} (h : tD K (m2 (fDIn n) ma mb) σ H Q) : tNIn K n (tBo K ma) (tBo K mb) σ H Q := by
  obtain ⟨H0, G, s, d, rs, e, q⟩ := h
  obtain ⟨x, ex, e⟩ := some_bind e
  obtain ⟨y, ey, ez⟩ := some_bind e
  refine ⟨H0, G, s, x, rs, ex, fun v H1 e1 rv => ⟨H0, G, s, y, rs.mono e1, ey, fun u H2 e2 ru => ?_⟩⟩
  unfold fDIn at ez
  split at ez
  · rename_i kvs
    obtain ⟨kk, hk, ez⟩ := some_bind ez
    obtain ⟨⟨hd, ht, hn⟩, ez⟩ := if_some ez
    cases ez
    obtain ⟨b', rfl, hx⟩ := RB.keyR rv hk (tupB_ne ht)
    obtain ⟨a', L, rfl, hr', hp⟩ := RB.dic (rs.mono e1) e2 hn ru
    have hl : (lookN L kk).isSome = (lookD kvs kk).isSome := by
      rcases rows_look kk hp with ⟨h1, h2⟩ | ⟨v', d', h1, h2, _⟩ <;> rw [h1, h2] <;> rfl
    refine ⟨a', b', L, kk, rfl, rfl, hr', rows_at hp, FX.kx _ _ _ hk (FX.to (fun _ _ z => e2.sqt z) _ _ hx), hd, ?_⟩
    rw [hl]
    exact q _ H2 (e1.trans e2) (.bl _)
  · cases ez
theorem x_din {k : Nat} (hK : X.K = K) (hr : Room k X.A) (ha : XB K X a ma) (hb : XB K X b mb) (hm : behindInMarks .In b = false := by rfl) : XE K X (.Compare a [.In] [b] pos) (m2 (fDIn false) ma mb) := by
  subst hK
  exact pe_imp (pe_cmp (pc_nin (by have := hr.un; omega) ha hb) hm) fun _ _ _ h => rdDIn h
theorem x_dnotin {k : Nat} (hK : X.K = K) (hr : Room k X.A) (ha : XB K X a ma) (hb : XB K X b mb) (hm : behindInMarks .NotIn b = false := by rfl) : XE K X (.Compare a [.NotIn] [b] pos) (m2 (fDIn true) ma mb) := by
  subst hK
  exact pe_imp (pe_cmp (pc_nnotin (by have := hr.un; omega) ha hb) hm) fun _ _ _ h => rdDIn h
theorem t_din {k : Nat} (hK : X.K = K) (hr : Room k X.A) (ha : XB K X a ma) (hb : XB K X b mb) (hm : behindInMarks .In b = false := by rfl) : XT K X (.Compare a [.In] [b] pos) (mT (m2 (fDIn false) ma mb)) := by
  subst hK
  exact pt_imp (pt_cmp (pc_nin (by have := hr.un; omega) ha hb) hm) fun _ _ _ h => rdDIn (tT_tD h)
theorem t_dnotin {k : Nat} (hK : X.K = K) (hr : Room k X.A) (ha : XB K X a ma) (hb : XB K X b mb) (hm : behindInMarks .NotIn b = false := by rfl) : XT K X (.Compare a [.NotIn] [b] pos) (mT (m2 (fDIn true) ma mb)) := by
  subst hK
  exact pt_imp (pt_cmp (pc_nnotin (by have := hr.un; omega) ha hb) hm) fun _ _ _ h => rdDIn (tT_tD h)
/-- {} -/
theorem x_dnew : XE K X (.Dict [] [] pos) (mC (.dict [])) := pe_imp pe_nnew fun σ H Q ⟨H0, G, s, d, r, e, q⟩ => by
  cases e
  exact fun p hp => q _ _ (Ex.new hp) (.dic ⟨r.new p hp, r.own_not hp⟩ (.inl upd_same) .nil)
/-- x = {} -/
def mAsgD (i : Nat) : MS := fun s => .nx (s.set i (some (.od [])))
theorem s_asgD {i : Nat} (h : PS X st (tAsg tNNew (gName i))) : XS K C E X st (mAsgD i) := ps_imp h fun D σ H ⟨H0, G, s, r, q⟩ p hp =>
  q _ _ (r.setC i (Ex.new hp) hp upd_same (.dic .nil)) ((Tr.setO i (Ex.new hp) hp))
/-- d[k] = e, d a dict of the def's own -/
def mDPut (i : Nat) (mk m : M) : MS := fun s => match s[i]? with
  | some (some (.od kvs)) => match (m s).bind fun d => (mk s).bind fun kd => (keyN kd).bind fun k => if k.depth ≤ 8 ∧ tupB kd = true ∧ flatD d = true ∧ kvs.length < 100000 then some (putD kvs k kd d) else none with
    | some kvs' => .nx (s.set i (some (.od kvs')))
    | none => .no
  | _ => .no
theorem s_dput {k i : Nat} (hK : X.K = K) (hr : Room k X.A) (ho : PE X a (tVar i)) (hb : XB K X b mb) (he : XE K X e m) (hs : swapsWith e (some (.Subscript a b pos')) pos.line X.env = pure false := by rfl) : XS K C E X (.Assign [.Subscript a b pos'] e pos) (mDPut i mb m) := by
  subst hK
  refine ps_imp (ps_nput (by have := hr.un; omega) ho hb he hs) fun D σ H ⟨H0, G, s, r, q⟩ => ?_
  unfold mDPut at q
  split at q
  · rename_i kvs hi
    split at q
    · rename_i kvs' hm
      obtain ⟨d, ed, hm⟩ := some_bind hm
      obtain ⟨kd, ek, hm⟩ := some_bind hm
      obtain ⟨kk, hk, hm⟩ := some_bind hm
      obtain ⟨⟨hd, ht, hf, hl⟩, hm⟩ := if_some hm
      cases hm
      refine ⟨H0, G, s, d, r, ed, fun v H1 e1 rv => ?_⟩
      obtain ⟨a', L, h1, h2, h3, h4, h5⟩ := (r.mono e1).owD i kvs hi
      refine ⟨.ref a', h1, H0, G, s, kd, r.mono e1, ek, fun u H2 e2 ru => ?_⟩
      obtain ⟨b', rfl, hx⟩ := RB.keyR ru hk (tupB_ne ht)
      have h5' := rows_to (fun _ _ z => e2.sqt z) h5
      have hv := FX.to (fun _ _ z => e2.sqt z) _ _ (R.fx _ _ hf rv)
      refine ⟨a', b', L, kk, rfl, rfl, e2 _ _ h2, rows_at h5', FX.kx _ _ _ hk hx, hd, sz_lt (by rw [rows_len h5]; exact hl), fun ap => ?_⟩
      exact q σ _ ((r.mono (e1.trans e2)).mutC hi h1 (.dic (rows_put h5' hk hd hx hv)) ap) ((Tr.mutO hi h1).ex (e1.trans e2))
    · exact q.elim
  · exact q.elim
end
end DD

/-! # sorted(xs, key=lambda x: ..) -/
namespace DD
open PySem PySem.Spec PyProof.Rows L2
theorem clo_nil {cells : List (Str × Addr)} : ∀ {names : List (Str × NameKind)} {acc : List (Str × Addr)}, (∀ y ∈ names, y.2 ≠ .free) → cloFrom cells names acc = acc
  | [], _, _ => rfl
  | (n, k) :: r, acc, h => by
    unfold cloFrom
    rw [if_neg (by have := h _ List.mem_cons_self; simpa using this)]
    exact clo_nil fun y hy => h y (List.mem_cons_of_mem _ hy)
/-- a lambda without captured names is called -/
theorem run_lam {P : Program} {w : World} {K : PySem.W.Frag} {mg : Str → Option Value} {base : Heap} {k : Nat} {f c' : Addr} {qual : Str} {params : Arguments} {body : Expr} {scope : Scope} {pm ctv : Value} {N ps : List Str} {A : Around} {outer : List Env} {s : Shared} {H : Hp} {us : List Value} {vs : List V} {Q : VK} {E : XK} {t : TE}
    (S : FnScope N ps scope) (hr : Room (k + 1) A) (e0 : Env0 P w K mg base A outer s H) (hf : s.heap.get? f = some (PySem.W.kla_obj "<lambda>" qual params body scope [] pm c' ctv)) (hc : s.heap.CodeRec (.ref c') qual)
    (hb : BindsTo s (PySem.W.kla_fn "<lambda>" qual params body scope [] pm (.ref c') ctv) ⟨us, []⟩ (ps.zip us)) (r : Vals vs us) (hl : vs.length = ps.length)
    (hbody : Room k (A.deeper (envOfC qual scope s.heap.objs.size f (.ref c'))) → PE (cxOf CX0 P w K mg base N qual scope f (.ref c') A outer s H E) body t) (ht : t (L2.start N vs) H Q) :
    codeAny (model P w) A (.call (.ref f) ⟨us, []⟩) (CR CX0 outer P w H s Q E) s := by
  have lim : s.heap.NoLimit := e0.mod.nolimit.keeps fun b o e => (e0.bs b o e).1
  have hkind : ∀ y ∈ ps.zip us, scope.names.lookup y.1 = some .local ∨ (scope.names.lookup y.1 = some .cell ∧ ((cellsFrom (s.heap.objs.size + 1) scope.names []).lookup y.1).isSome = true) := fun ⟨n, v⟩ hy => by
    rcases S.par n (List.of_mem_zip hy).1 with q | q
    · exact .inl q
    · exact .inr ⟨q, PySem.W.cellsFrom_some _ _ _ (.inl q)⟩
  refine PySem.W.kla_callFunE hr.depth hf rfl S.co S.gen rfl hc (hb _ _ _ _ ?_)
  refine wpAny_newFunctionEnv_cells S.kind hkind fun env he s1 x => ?_
  subst he
  refine ⟨lim.keeps x.toInCall.keep, ?_⟩
  have I : Inv (cxOf CX0 P w K mg base N qual scope f (.ref c') A outer s H E) [] (L2.start N vs) H s1 := inv_start S hr.hd e0 hl r x
  refine PySem.W.kla_codeExpr (wpAny_mono ((hbody (hr.deeper _)).run [] s1 (L2.start N vs) H Q I ht) (fun u s' hq => ?_) fun e s' hq => hq)
  obtain ⟨v, H', J, rv, q⟩ := hq
  exact ⟨v, H', J.os, J.bare, J.base, J.hok, rv, q⟩
theorem gone {h : Heap} {a : Addr} (ha : a < h.objs.size) : (h.update a fun _ => { cls := .none, data := .freed }).get? a = none := by
  obtain ⟨objs, l⟩ := h
  unfold Heap.update Heap.get?
  have : (objs.modify a fun _ => ({ cls := .none, data := .freed } : Obj))[a]? = some { cls := .none, data := .freed } := by
    rw [Array.getElem?_modify, if_pos rfl]
    have h2 : objs[a]? = some (objs[a]'ha) := Array.getElem?_eq_getElem ha
    rw [h2]; rfl
  simp only [this]
/-- an object that is not tracked and not of the frames, and another one, have changed; the first one is tracked from now on -/
theorem take2 {X : Cx} {pins : List (Addr × Obj)} {σ : L2.St} {H : Hp} {s : Shared} {h' : Heap} {t' : Nat} {a c : Addr} {o : HO} (I : Inv X pins σ H s) (k : ∀ b ob, b ≠ a → b ≠ c → s.heap.get? b = some ob → h'.get? b = some ob) (fa : FpOk X pins H a) (fc : FpOk X pins H c)
    (new : ObjOk X.prog X.w (upd H a o) h' a o) : Inv X pins σ (upd H a o) { s with heap := h', toks := t' } := by
  have na : ∀ b u, H b = some u → b ≠ a := fun b u e z => by rw [z, fa.1] at e; cases e
  have nc : ∀ b u, H b = some u → b ≠ c := fun b u e z => by rw [z, fc.1] at e; cases e
  have up : ∀ b u, H b = some u → upd H a o b = some u := fun b u e => (upd_ne (na b u e)).trans e
  have out : ∀ b, b ∉ [a, c] → b ≠ a ∧ b ≠ c := fun b z => ⟨fun w => z (w ▸ List.mem_cons_self), fun w => z (w ▸ List.mem_cons_of_mem _ List.mem_cons_self)⟩
  have fs : ∀ b ∈ [a, c], FpOk X pins H b := fun b hb => by
    rcases List.mem_cons.mp hb with e | e
    · exact e ▸ fa
    · exact (List.mem_singleton.mp e) ▸ fc
  refine I.step (g' := s.gens) (d' := s.drawn) (ch := [a, c]) (fun b hb => ⟨(fs b hb).2.2.2.1, (fs b hb).2.1, (fs b hb).2.2.2.2.1, (fs b hb).2.2.2.2.2⟩)
    (fun b ob _ _ z e _ => k b ob (out b z).1 (out b z).2 e) (fun b ob _ _ z e _ => ⟨_, k b ob (out b z).1 (out b z).2 e⟩) (fun b ob z _ n => (upd_ne (out b z).1).trans n) (fun b ob z e => ⟨_, k b ob (out b z).1 (out b z).2 e⟩)
    (fun b _ e => up b _ e) (fun b _ _ e => up b _ e) (fun b ps e => ⟨#[], by rw [up b _ e]; simp⟩) (fun m hm => ?_) (fun b u e => ?_) I.bare
  · obtain ⟨ob, es, ep, ho, r⟩ := hm
    exact ⟨ob, es, ep, k _ ob (Ne.symm fa.2.1) (Ne.symm fc.2.1) ho, r⟩
  · by_cases hb : b = a
    · subst hb
      rw [upd_same] at e
      cases e
      exact new
    · rw [upd_ne hb] at e
      refine (I.hok b u e).stay (fun d v hd q => ?_) (fun d q => up d _ q) fun d xs q => up d _ q
      have hd' : d ≠ a ∧ d ≠ c := by
        rcases hd with z | z
        · exact z ▸ ⟨na b u e, nc b u e⟩
        · exact ⟨na d _ z, nc d _ z⟩
      exact k d v hd'.1 hd'.2 q
variable [LTb]
/-- what a call of the key gives -/
def KeyCall (K : Fg) (t : TE) (N : List Str) (H : Hp) (b : V × D × D) : Prop := ∀ H1, Ex H H1 → ∀ Q : VK, (∀ kv H2, Ex H1 H2 → FX K H2 kv b.2.2 → Q kv H2) → t (L2.start N [b.1]) H1 Q
theorem each_triples {β : Type} {R : Value → β → Prop} {f : β → V} (hR : ∀ v b, RelV (f b) v → R v b) : ∀ {bs : List β} {us : List Value}, Vals (bs.map f) us → W.EachIs R us bs
  | [], _, h => by cases h; exact .nil
  | b :: bs, _, h => by
    cases h with
    | cons h1 h2 => exact .cons (hR _ _ h1) (each_triples hR h2)
theorem triples_each {β : Type} {f : β → V} : ∀ {bs : List β} {us : List Value}, W.EachIs (fun v b => RelV (f b) v) us bs → Vals (bs.map f) us
  | [], _, h => by cases h; exact .nil
  | b :: bs, _, h => by
    cases h with
    | cons h1 h2 => exact .cons h1 (triples_each h2)
theorem keys_read {X : Cx} {pins : List (Addr × Obj)} {σ : L2.St} {H : Hp} {s : Shared} (I : Inv X pins σ H s) : ∀ {kds : List D} {ks : List V} {us : List Value}, FXs X.K H ks kds → plainD.go kds = true → Vals ks us → W.EachIs (fun v k => ∃ as, Reads s.heap v k as) us kds
  | [], _, _, h, _, r => by cases h; cases r; exact .nil
  | d :: ds, _, _, h, p, r => by
    cases h with
    | cons h1 h2 =>
      cases r with
      | cons r1 r2 =>
        have p' : plainD d = true ∧ plainD.go ds = true := by simpa only [plainD.go, Bool.and_eq_true] using p
        exact .cons (Dp.reads I d _ _ (R.dp (B := fun _ => True) d _ p'.1 (FX.r d _ h1)) r1) (keys_read I h2 p'.2 r2)
theorem vals_at : ∀ {xs : List V} {us : List Value} {j : Nat} {v : V} {u : Value}, Vals xs us → xs[j]? = some v → us[j]? = some u → RelV v u
  | [], _, j, _, _, h, e, _ => by simp at e
  | _ :: _, _, 0, _, _, .cons r _, e, e2 => by simp at e e2; exact e ▸ e2 ▸ r
  | _ :: _, _, j + 1, _, _, .cons _ r, e, e2 => vals_at r (by simpa using e) (by simpa using e2)
theorem FXs.snoc {K : Fg} {H : Hp} : ∀ {ks : List V} {kds : List D} {v : V} {d : D}, FXs K H ks kds → FX K H v d → FXs K H (ks ++ [v]) (kds ++ [d])
  | _, _, _, _, .nil, h => .cons h .nil
  | _, _, _, _, .cons h1 h2, h => .cons h1 (h2.snoc h)
theorem FXs.len {K : Fg} {H : Hp} : ∀ {ks : List V} {kds : List D}, FXs K H ks kds → ks.length = kds.length
  | _, _, .nil => rfl
  | _, _, .cons _ h => congrArg (· + 1) h.len
theorem FX.ex {K : Fg} {H H' : Hp} {v : V} {d : D} (e : Ex H H') (h : FX K H v d) : FX K H' v d := FX.to (fun _ _ q => e.sqt q) d v h
theorem FXs.ex {K : Fg} {H H' : Hp} {v : List V} {d : List D} (e : Ex H H') (h : FXs K H v d) : FXs K H' v d := FXs.to (fun _ _ q => e.sqt q) d v h

section
variable {X : Cx} {pins : List (Addr × Obj)} {σ : L2.St} {H : Hp} {s : Shared}
/-- while the keys are reckoned: kS takes them, a is empty -/
def KeyTurn (X : Cx) (pins : List (Addr × Obj)) (σ : L2.St) (H : Hp) (f a kS : Addr) (e1 : Nat) (fo : Obj) (kds : List D) (s' : Shared) : Prop :=
  ∃ H' ks kA e, Inv X pins σ H' s' ∧ Ex H H' ∧ H' f = none ∧ H' a = none ∧ H' kS = none ∧ s'.heap.get? f = some fo ∧ s'.heap.get? a = some (seqObj "list" #[] e1) ∧ s'.heap.get? kS = some (seqObj "list" kA e) ∧ Vals ks kA.toList ∧ FXs X.K H' ks kds
theorem sortkey_run {l f c' : Addr} {params : Arguments} {body : Expr} {scope : Scope} {pm ctv : Value} {k : Nat} {N : List Str} {y q : Str} {t : TE} {xs : List V} {bs : List (V × D × D)} {Q : VK} {E : Value → Shared → Prop}
    (I : Inv X pins σ H s) (hr : Room (k + 3) X.A) (hs : SqL X.K H l xs) (hx : bs.map (·.1) = xs) (hf : s.heap.get? f = some (PySem.W.kla_obj "<lambda>" q params body scope [] pm c' ctv)) (hfn : H f = none) (hfr : f ∉ frs X.stack) (hco : H c' = some (LamX.CodeO c' q))
    (S : FnScope N [y] scope) (hb : ∀ (s : Shared) (u : Value), BindsTo s (PySem.W.kla_fn "<lambda>" q params body scope [] pm (.ref c') ctv) ⟨[u], []⟩ [(y, u)])
    (hbody : ∀ (A : Around) (outer : List Env) (s : Shared) (H : Hp), Room k (A.deeper (envOfC q scope s.heap.objs.size f (.ref c'))) → PE (cxOf CX0 X.prog X.w X.K X.mg X.base N q scope f (.ref c') A outer s H (fun _ _ _ => False)) body t)
    (turn : ∀ b ∈ bs, KeyCall X.K t N H b) (hal : alikeAllB (bs.map (·.2.2)) = true) (hso : sortB (bs.map (·.2.2)) = true) (hdp : PyData.depthAll (bs.map (·.2.2)) ≤ 60) (hpl : plainD.go (bs.map (·.2.2)) = true)
    (fin : ∀ p H1, Ex H H1 → H p = none → H1 p = none → Q (.ref p) (upd H1 p (.lst ((bs.mergeSort (W.dataLe false fun b => b.2.2)).map (·.1))))) :
    wpAny (model X.prog X.w) X.A (call (.builtin "sorted") [.ref l] [(Str.ofString "key", .ref f)]) (EP X pins σ Q) E s := by
  obtain ⟨vs, rv, hl, hz⟩ := I.list hs
  have hlen : vs.length = bs.length := by rw [← rv.length, ← hx, List.length_map]
  refine W.sorted_of_sort hl.isList (by rw [← rv.length]; exact hz) (ksk_s1 _ _) (fun _ => ksk_l1 _ _) fun E' => ?_
  rw [ksk_t1]
  have hzv : vs.length ≤ sizeLine := by rw [← rv.length]; exact hz
  generalize ha : s.heap.objs.size + 1 = a
  have ho : (W.copyHeap s.heap vs).get? a = some (seqObj "list" vs.toArray 0) := by rw [← ha]; exact W.copyHeap_at s.heap vs
  obtain ⟨e1, ho1⟩ : ∃ e1, ((W.copyHeap s.heap vs).update a (Obj.mapSeq fun _ => (#[] : Array Value))).get? a = some (seqObj "list" #[] e1) := ⟨_, get?_update_seq ho fun _ => #[]⟩
  have hag : s.heap.objs.size ≤ a := by rw [← ha]; exact Nat.le_succ _
  have old : ∀ b o, s.heap.get? b = some o → (W.sortingHeap (W.copyHeap s.heap vs) a vs).get? b = some o := fun b o e =>
    W.sortingHeap_old (fun w => by rw [w] at e; exact absurd (Nat.lt_of_lt_of_le (Heap.lt_size e) hag) (Nat.lt_irrefl _)) (W.copyHeap_old e)
  unfold ksk_tree
  refine wpAny_bind (listItems_at ho rfl ?_)
  refine wpAny_bind (listUpdate_at ho rfl ?_ (by rw [List.size_toArray]; exact hzv) (Nat.zero_le _))
  refine wpAny_bind (seqEpoch_at ho1 rfl ?_)
  refine wpAny_bind (wpAny_newTuple ?_ (by show vs.length ≤ _; exact hzv))
  refine wpAny_bind (wpAny_newList ?_ (Nat.zero_le _))
  refine wpAny_holding ?_
  generalize hk : (((W.copyHeap s.heap vs).update a (Obj.mapSeq fun _ => (#[] : Array Value))).push (seqObj "tuple" vs.toArray 0)).objs.size = kS
  have hka : a < kS := by
    rw [← hk, size_push', Heap.size_update]
    exact Nat.lt_succ_of_lt (Heap.lt_size ho)
  have hkg : s.heap.objs.size ≤ kS := Nat.le_trans hag (Nat.le_of_lt hka)
  have hag3 : (W.sortingHeap (W.copyHeap s.heap vs) a vs).get? a = some (seqObj "list" #[] e1) := Heap.get?_push_of_some _ (Heap.get?_push_of_some _ ho1)
  have hkg3 : (W.sortingHeap (W.copyHeap s.heap vs) a vs).get? kS = some (seqObj "list" #[] 0) := by
    rw [← hk]
    exact Heap.get?_push_size _ rfl
  generalize hg3 : W.sortingHeap (W.copyHeap s.heap vs) a vs = g3 at old hag3 hkg3
  have I3 : Inv X pins σ H { s with heap := g3 } := I.kept old
  have no : ∀ b, s.heap.objs.size ≤ b → b ∉ frs X.stack := fun b hb z => by
    rcases List.mem_cons.mp (I.stkSub _ z) with e | e
    · have h1 := I.lt
      rw [← e] at h1
      exact Nat.lt_irrefl _ (Nat.lt_of_lt_of_le h1 hb)
    · exact I.nofs hb e
  have T3 : KeyTurn X pins σ H f a kS e1 (PySem.W.kla_obj "<lambda>" q params body scope [] pm c' ctv) [] { s with heap := g3 } :=
    ⟨H, [], #[], 0, I3, Ex.refl H, hfn, I.hok.fresh hag, I.hok.fresh hkg, old _ _ hf, hag3, hkg3, .nil, .nil⟩
  show wpAny _ _ (ksk_rest a (.ref f) false vs.toArray e1 (.ref kS)) _ _ ({ s with heap := W.sortingHeap (W.copyHeap s.heap vs) a vs } : Shared)
  rw [hg3]
  unfold ksk_rest
  refine wpAny_bind (wpAny_rule ?_)
  first
    | rw [List.forIn_toArray]
    | (rw [← Array.forIn_toList]; simp only [List.toList_toArray])
  have fp : ∀ {H'} b, s.heap.objs.size ≤ b → H' b = none → FpOk X pins H' b := fun b hb n => I.fpOk hb n
  refine wpAny_bind (ksk_fold (fun i s' => KeyTurn X pins σ H f a kS e1 (PySem.W.kla_obj "<lambda>" q params body scope [] pm c' ctv) ((bs.take i).map (·.2.2)) s') vs 0 _ T3 ?step ?done)
  case step =>
    rintro j x s' hxj ⟨H', ks, kA, e, I', ex, nf, na, nk, gf, ga, gk, vk, fk⟩
    rw [Nat.zero_add] at fk ⊢
    have hj : j < bs.length := by rw [← hlen]; exact (List.getElem?_eq_some_iff.mp hxj).1
    have hbj : bs[j]? = some bs[j] := List.getElem?_eq_getElem hj
    have rx : RelV bs[j].1 x := by
      have h2 : xs[j]? = some bs[j].1 := by rw [← hx, List.getElem?_map, hbj]; rfl
      exact vals_at rv h2 hxj
    have hc2 := (I'.hok c' _ (ex.at_ c' _ hco nt_ext)).1
    refine wpAny_bind (wpAny_attempt (wpAny_call (codeAny_mono (run_lam (E := fun _ _ _ => False) (Q := fun kv H2 => Ex H' H2 ∧ FX X.K H2 kv bs[j].2.2) S (hr.mono (by omega) : Room (k + 1 + 1 + 1) X.A).in1.in1 I'.env0.in1.in1 gf ?_ (hb _ x) (.cons rx .nil) rfl (fun hr' => hbody _ _ _ _ hr') (turn _ (List.getElem_mem hj) H' ex _ fun kv H2 e2 fx => ⟨e2, fx⟩)) fun r s2 hq => ?_)))
    · obtain ⟨oc, fs, tk, z1, z2, z3⟩ := hc2
      exact ⟨_, oc, fs, tk, rfl, z1, z2, z3⟩
    · cases r with
      | error er => exact (show False from hq).elim
      | ok fl =>
        cases fl with
        | next => exact False.elim hq
        | brk => exact False.elim hq
        | cont => exact False.elim hq
        | ret u =>
          obtain ⟨kv, H2, hos, hbare, un, hok, rk, ex2, fx⟩ := hq
          have I2 : Inv X pins σ H2 s2 := I'.call' (ch := []) hos un hok hbare (fun b hb => nomatch hb)
          have gf2 := un.keep f _ gf nf hfr (fun z => nomatch z)
          have ga2 := un.keep a _ ga na (no a hag) (fun z => nomatch z)
          have gk2 := un.keep kS _ gk nk (no kS hkg) (fun z => nomatch z)
          have nf2 := un.free f _ gf nf (fun z => nomatch z)
          have na2 := un.free a _ ga na (fun z => nomatch z)
          have nk2 := un.free kS _ gk nk (fun z => nomatch z)
          have hzk : kA.size ≤ vs.length := by
            have z1 := fk.len
            have z2 := vk.length
            rw [List.length_map, List.length_take] at z1
            have z3 : kA.toList.length = kA.size := Array.length_toList
            omega
          show wpAny _ _ _ _ _ s2
          have sb := Heap.SameBut.update s2.heap kS (Obj.mapSeq (·.push u))
          obtain ⟨c2, hc2'⟩ : ∃ c2, (s2.heap.update kS (Obj.mapSeq (·.push u))).get? kS = some (seqObj "list" (kA.push u) c2) := ⟨_, get?_update_seq gk2 (·.push u)⟩
          refine wpAny_bind (listUpdate_at gk2 rfl ?_ (Nat.le_trans hzk hzv) (Nat.le_trans (Nat.le_of_eq (Array.size_push ..)) (Nat.succ_le_succ (Nat.le_trans hzk hzv))))
          obtain ⟨z0, z1, z2, z3, z4, z5⟩ := fp kS hkg nk2
          have I4 : Inv X pins σ H2 { s2 with heap := s2.heap.update kS (Obj.mapSeq (·.push u)), toks := s2.toks } := I2.turned (t' := s2.toks) (fun b o hb e => (sb.2 b hb).trans e) z0 z1 z3 z4 z5
          refine wpAny_pure ⟨rfl, H2, ks ++ [kv], kA.push u, c2, I4, ex.trans ex2, nf2, na2, nk2, ?_, ?_, hc2', ?_, ?_⟩
          · exact (sb.2 f (fun w => by rw [w, gk2] at gf2; have z := congrArg Obj.data (Option.some.inj gf2); cases z)).trans gf2
          · exact (sb.2 a (Nat.ne_of_lt hka)).trans ga2
          · rw [Array.toList_push]
            exact vk.append (.cons rk .nil)
          · rw [List.take_add_one, hbj]
            simp only [Option.toList_some, List.map_append, List.map_cons, List.map_nil]
            exact (fk.ex ex2).snoc fx
  case done =>
    rintro s' ⟨H', ks, kA, e, I', ex, nf, na, nk, gf, ga, gk, vk, fk⟩
    rw [Nat.zero_add, List.take_of_length_le (by omega)] at fk
    have hsz : kA.size = vs.length := by
      have z1 := fk.len
      have z2 := vk.length
      rw [List.length_map] at z1
      have z3 : kA.toList.length = kA.size := Array.length_toList
      omega
    show wpAny _ _ _ _ _ s'
    refine wpAny_bind (listItems_at gk rfl ?_)
    have hrd := keys_read I' fk hpl vk
    have kd : ∀ d, d ∈ bs.map (·.2.2) → X.A.in1.in1.units + d.depth < cLine := fun d hd => by
      have h1 := depth_le hd
      have h2 := hr.un
      show X.A.units + 2 + d.depth < cLine
      omega
    have hgk : (s'.heap.update kS fun _ => { cls := .none, data := .freed }).get? kS = none := gone (Heap.lt_size gk)
    have hup : ∀ b o, b ≠ kS → s'.heap.get? b = some o → (s'.heap.update kS fun _ => { cls := .none, data := .freed }).get? b = some o := fun b o hb e => (Heap.get?_update_ne _ _ _ _ hb).trans e
    have hdn : W.KeepsBut a (s'.heap.update kS fun _ => { cls := .none, data := .freed }) s'.heap := fun b o hb e => by
      by_cases w : b = kS
      · rw [w, hgk] at e; cases e
      · rw [Heap.get?_update_ne _ _ _ _ w] at e; exact e
    refine W.keyH_end (κ := W.dataKind s'.heap (bs.map (·.2.2))) (h₁ := s'.heap.update kS fun _ => { cls := .none, data := .freed }) hdn hgk gk ga (Nat.ne_of_gt hka) (W.SortsAt.data hrd (by simpa using alikeAllB_of hal) ?_ kd) hsz hzv fun h2 tk c kb g2 => ?_
    · have := sortB_of hso
      simpa using this
    have ko : W.KeyedOut false (bs.map (·.2.2)) vs (W.sortVals (W.dataKind s'.heap (bs.map (·.2.2))) false kA.toList vs) := ⟨s'.heap, kA.toList, by simpa using alikeAllB_of hal, rfl, hrd⟩
    have eo := W.keyedOut_each (R := fun v (b : V × D × D) => RelV b.1 v) (fun b => b.2.2) ko (each_triples (f := fun b : V × D × D => b.1) (fun _ _ h => h) (by rw [hx]; exact rv))
    have rvo := triples_each (f := fun b : V × D × D => b.1) eo
    generalize hout : W.sortVals (W.dataKind s'.heap (bs.map (·.2.2))) false kA.toList vs = out at g2 ko eo rvo
    have hol : out.length = vs.length := ko.length (by rw [List.length_map]; omega)
    refine ⟨rfl, .ref a, upd H' a (.lst ((bs.mergeSort (W.dataLe false fun b => b.2.2)).map (·.1))), ?_, rfl, fin a H' ex (I.hok.fresh hag) na⟩
    refine take2 (c := kS) I' (fun b ob hb hc e => kb b ob hb (hup b ob hc e)) (fp a hag na) (fp kS hkg nk) ?_
    · refine ⟨?_, out, c, rvo, g2⟩
      rw [rvo.length, hol]
      exact hzv
end

section
variable {X : Cx} {pins : List (Addr × Obj)} {σ : L2.St} {H : Hp} {s : Shared}
/-- the table at P has got the code object at c -/
theorem Ex.table {H : Hp} {P c : Addr} {q : Str} {ps : Array Value} {more : Array Value} (hP : H P = some (.tbl ps)) (nc : H c = none) (t1 : ∀ p ∈ LTb.T, p.1 = P → p.2 = q) (tS : LamX.TabS H P q → LamX.TabS (upd (upd H P (.tbl (ps ++ more))) c (LamX.CodeO c q)) P q) (tT : TriplesOk (ps ++ more).toList) :
    Ex H (upd (upd H P (.tbl (ps ++ more))) c (LamX.CodeO c q)) := by
  have out : ∀ b, b ≠ P → b ≠ c → (upd (upd H P (.tbl (ps ++ more))) c (LamX.CodeO c q)) b = H b := fun b h1 h2 => by rw [upd_ne h2, upd_ne h1]
  have nPc : P ≠ c := ne_of_none hP nc
  have keep : ∀ a o, H a = some o → NT o → (upd (upd H P (.tbl (ps ++ more))) c (LamX.CodeO c q)) a = some o := fun a o e n => by
    rw [out a (fun w => n ps (Option.some.inj (by rw [← e, w, hP]))) (ne_of_none e nc)]; exact e
  refine ⟨keep, fun a e w => ?_, fun t => ⟨fun x hx => ?_, fun x hx => ?_⟩⟩
  · by_cases h1 : a = c
    · rw [h1] at e; exact e nc
    · rw [upd_ne h1] at w
      by_cases h2 : a = P
      · rw [h2, upd_same] at w; cases w
      · rw [upd_ne h2] at w; exact e w
  · by_cases h : x.1 = P
    · have z := t.1 x hx
      rw [h, t1 x hx h] at z
      rw [h, t1 x hx h]
      exact tS z
    · obtain ⟨ps', a1, a2, a3⟩ := t.1 x hx
      refine ⟨ps', by rw [out x.1 h (ne_of_none a1 nc)]; exact a1, a2, fun p' cv hcv => ?_⟩
      obtain ⟨c0, e1, e2⟩ := a3 p' cv hcv
      exact ⟨c0, e1, keep _ _ e2 nt_ext⟩
  · by_cases h : x = P
    · rw [h]; exact ⟨_, by rw [upd_ne nPc, upd_same], tT⟩
    · obtain ⟨ps', a1, a2⟩ := t.2 x hx
      exact ⟨ps', by rw [out x h (ne_of_none a1 nc)]; exact a1, a2⟩
/-- a lambda without captured names is made -/
theorem lam_new {c P : Addr} {params : Arguments} {body : Expr} {scope : Scope} {pos : Pos} {E : Value → Shared → Prop} {Q : Value → Shared → Prop} (I : Inv X pins σ H s) (TB : LamX.TabB X.base X.mg c P) (hcode : X.env.code = .ref c)
    (t0 : (P, X.env.qual ++ "<lambda>") ∈ LTb.T) (t1 : ∀ p ∈ LTb.T, p.1 = P → p.2 = X.env.qual ++ "<lambda>") (tk : TabOk H) (hdef : defaultsOf params X.env = ([], [])) (hfree : ∀ y ∈ scope.names, y.2 ≠ .free)
    (h : ∀ (f c' : Addr) (pm ctv : Value) (H1 : Hp) (s' : Shared), Inv X pins σ H1 s' → Ex H H1 → s'.heap.get? f = some (PySem.W.kla_obj "<lambda>" (X.env.qual ++ "<lambda>") params body scope [] pm c' ctv) → H1 f = none → f ∉ frs X.stack → H1 c' = some (LamX.CodeO c' (X.env.qual ++ "<lambda>")) → Q (.ref f) s') :
    wpAny (model X.prog X.w) X.A (eval (.Lambda params body scope pos) X.env) Q E s := by
  have hP0 := tk.1 _ t0
  obtain ⟨ps, hP, ht, ha⟩ := hP0
  refine PySem.W.kla_eval hdef ?_
  have cl : closureFor scope X.env = pure [] := (closure_ok fun y hy e => (hfree y hy e).elim).trans (by rw [clo_nil hfree])
  have gP : s.heap.get? P = some { cls := .none, data := .fields ps } := I.hok P _ hP
  have bP : s.heap.BuiltinsAt X.mg P := TB.bm.keeps I.bk
  have far : ∀ f, s.heap.objs.size ≤ f → f ∉ frs X.stack := fun f hf z => by
    rcases List.mem_cons.mp (I.stkSub _ z) with e | e
    · exact Nat.lt_irrefl _ (Nat.lt_of_lt_of_le (e ▸ I.lt) hf)
    · exact I.nofs hf e
  cases hc : codeAmong pos ps.toList with
  | some cv =>
    obtain ⟨c', rfl, hco⟩ := ha pos cv hc
    refine PySem.W.kla_makeFunctionHit (mg := X.mg) (c := c) (P := P) (ps := ps) cl I.ok.glob (I.mod.glob.keeps I.bk) hcode (TB.code.keeps I.bk) gP ht hc bP fun ctv h' tk' hx hsz => ?_
    exact h _ c' _ ctv H _ (I.kept fun b o e => Heap.get?_push_of_some _ (hx b o e)) (Ex.refl H) (Heap.get?_push_size _ rfl) (I.hok.fresh hsz) (far _ hsz) hco
  | none =>
    refine PySem.W.kla_makeFunction (mg := X.mg) (c := c) (P := P) (ps := ps) cl I.ok.glob (I.mod.glob.keeps I.bk) hcode (TB.code.keeps I.bk) gP ht hc TB.gP bP fun c' ctv h' tk' hx hge hlt hrec htb => ?_
    obtain ⟨c2, oc, vs, t, e2, hoc, hd, hv⟩ := hrec
    cases e2
    have nC : H c' = none := I.hok.fresh hge
    have hsz : s.heap.objs.size ≤ h'.objs.size := Nat.le_trans hge (Nat.le_of_lt hlt)
    have I1 := LamX.inv_table (t' := tk') (more := #[rawInt pos.line, rawInt pos.col, .ref c']) (h' := h'.push (PySem.W.kla_obj "<lambda>" (X.env.qual ++ "<lambda>") params body scope [] ((X.mg "__name__").getD .none) c' ctv)) I hP
      (fun b o hb e => Heap.get?_push_of_some _ (hx b o hb e)) (Heap.get?_push_of_some _ htb) hge ⟨oc, vs, t, Heap.get?_push_of_some _ hoc, hd, hv⟩
    have eL : (ps ++ #[rawInt pos.line, rawInt pos.col, .ref c']).toList = ps.toList ++ [rawInt pos.line, rawInt pos.col, .ref c'] := by simp
    have tT : TriplesOk (ps ++ #[rawInt pos.line, rawInt pos.col, .ref c']).toList := by rw [eL]; exact PySem.TriplesOk_snoc _ _ _ _ ht
    refine h h'.objs.size c' _ ctv _ _ I1 (Ex.table hP nC t1 (fun z => ?_) tT) (Heap.get?_push_size _ rfl) ?_ (far _ hsz) upd_same
    · refine ⟨_, by rw [upd_ne (ne_of_none hP nC), upd_same], tT, fun p' cv hcv => ?_⟩
      rw [eL] at hcv
      rcases LamX.among_app _ ht hcv with z | z
      · obtain ⟨c0, e1, e2⟩ := ha p' cv z
        refine ⟨c0, e1, ?_⟩
        rw [upd_ne (ne_of_none e2 nC), upd_ne (fun w => by rw [w, hP] at e2; exact LamX.codeO_ne _ (Option.some.inj e2).symm)]
        exact e2
      · exact ⟨c', z, upd_same⟩
    · rw [upd_ne (Nat.ne_of_gt hlt), upd_ne (Nat.ne_of_gt (Nat.lt_of_lt_of_le (Heap.lt_size gP) hsz))]
      exact I.hok.fresh hsz
end
/-! ### the rule over data -/
theorem flat_plain : ∀ d : D, flatD d = true → plainD d = true
  | .none, _ => rfl
  | .bool _, _ => rfl
  | .int _, _ => rfl
  | .str _, _ => rfl
  | .list _, h => by simp [flatD] at h
  | .dict _, h => by simp [flatD] at h
  | .tuple ds, h => by
    simp only [flatD] at h
    simp only [plainD]
    exact go ds h
where go : ∀ ds : List D, flatD.go ds = true → plainD.go ds = true
  | [], _ => rfl
  | d :: ds, h => by
    have h' : flatD d = true ∧ flatD.go ds = true := by simpa only [flatD.go, Bool.and_eq_true] using h
    simp only [plainD.go, flat_plain d h'.1, go ds h'.2, Bool.and_self]
def keysOf (n : Nat) (me : M) : List D → Option (List D)
  | [] => some []
  | d :: ds => (me (startS n [d])).bind fun k => (keysOf n me ds).map (k :: ·)
def sortByK (ds ks : List D) : List D := ((ds.zip ks).mergeSort (W.dataLe false fun b => b.2)).map (·.1)
def mSortK (n : Nat) (me : M) (m : M) : ML := fun s => (m s).bind fun d => (fList d).bind fun ds => (keysOf n me ds).bind fun ks => if alikeAllB ks = true ∧ sortB ks = true ∧ PyData.depthAll ks ≤ 60 ∧ flatD.go ks = true then some (sortByK ds ks) else none
theorem keysOf_len {n : Nat} {me : M} : ∀ {ds ks : List D}, keysOf n me ds = some ks → ks.length = ds.length
  | [], _, h => by cases h; rfl
  | d :: ds, ks, h => by
    obtain ⟨k, _, h⟩ := some_bind h
    obtain ⟨r, hr, rfl⟩ := opt_map h
    simp [keysOf_len hr]
theorem keysOf_at {n : Nat} {me : M} : ∀ {ds ks : List D} {j : Nat} {d k : D}, keysOf n me ds = some ks → ds[j]? = some d → ks[j]? = some k → me (startS n [d]) = some k
  | [], _, j, _, _, h, e, _ => by simp at e
  | d :: ds, ks, j, d', k', h, e, e2 => by
    obtain ⟨k, hk, h⟩ := some_bind h
    obtain ⟨r, hr, rfl⟩ := opt_map h
    cases j with
    | zero => simp at e e2; subst e e2; exact hk
    | succ j => exact keysOf_at hr (by simpa using e) (by simpa using e2)
theorem flat_mem : ∀ {ks : List D} {k : D}, flatD.go ks = true → k ∈ ks → flatD k = true
  | d :: ds, k, h, hm => by
    have h' : flatD d = true ∧ flatD.go ds = true := by simpa only [flatD.go, Bool.and_eq_true] using h
    rcases List.mem_cons.mp hm with e | e
    · exact e ▸ h'.1
    · exact flat_mem h'.2 e
theorem RA.pairs {K : Fg} {B : Addr → Prop} {H : Hp} : ∀ {l : List (V × D)}, (∀ x ∈ l, R K B H x.1 x.2) → RA K B H (l.map (·.1)) (l.map (·.2))
  | [], _ => .nil
  | x :: l, h => .cons (h x List.mem_cons_self) (RA.pairs fun y hy => h y (List.mem_cons_of_mem _ hy))
section
variable {K : Fg} {X : Cx} {e body : Expr} {m me : M} {params : Arguments} {scope : Scope} {p pos lpos kpos : Pos} {c P : Addr} {k k' : Nat} {N : List Str} {y : Str}
theorem l_sortK (hK : X.K = K) (hr : Room k' X.A) (hkk : k + 3 ≤ k') (hg : Gl X "sorted") (hm : X.mg "sorted" = none) (ha : XB K X e m) (TB : LamX.TabB X.base X.mg c P) (hcode : X.env.code = .ref c) (t0 : (P, X.env.qual ++ "<lambda>") ∈ LTb.T) (t1 : ∀ p ∈ LTb.T, p.1 = P → p.2 = X.env.qual ++ "<lambda>")
    (hdef : defaultsOf params X.env = ([], [])) (S : FnScope N [y] scope) (hb : ∀ (f c' : Addr) (pm ctv : Value) (s : Shared) (u : Value), BindsTo s (PySem.W.kla_fn "<lambda>" (X.env.qual ++ "<lambda>") params body scope [] pm (.ref c') ctv) ⟨[u], []⟩ [(y, u)])
    (hbody : ∀ (f c' : Addr) (A : Around) (outer : List Env) (s : Shared) (H : Hp), Room k (A.deeper (envOfC (X.env.qual ++ "<lambda>") scope s.heap.objs.size f (.ref c'))) → XE K (cxOf CX0 X.prog X.w X.K X.mg X.base N (X.env.qual ++ "<lambda>") scope f (.ref c') A outer s H (fun _ _ _ => False)) body me)
    (he0 : starEach [e] X.env = (false, eval e X.env) :: starEach [] X.env := by rfl) (he : backTo pos (starEach [e] X.env) = (false, eval e X.env) :: backTo pos (starEach [] X.env) := by rfl) (hpl : (backTo pos (starEach [e] X.env)).any (·.1) = false := by rfl)
    (hall : (backToKw pos (keywordEach [⟨some "key", .Lambda params body scope lpos, kpos⟩] X.env)).all (·.1.isSome) = true := by rfl) (hnone : (backToKw pos (keywordEach [⟨some "key", .Lambda params body scope lpos, kpos⟩] X.env)).any (·.1.isNone) = false := by rfl) :
    XL K X (.Call (.Name "sorted" p) [e] [⟨some "key", .Lambda params body scope lpos, kpos⟩] pos) (mSortK N.length me m) := by
  subst hK
  refine ⟨fun pins s σ H Q I ⟨H0, G, sd, es, r, e0, q⟩ => ?_⟩
  obtain ⟨d, ed, e0⟩ := some_bind e0
  obtain ⟨ds, ef, e0⟩ := some_bind e0
  obtain ⟨ks, ek, e0⟩ := some_bind e0
  obtain ⟨⟨h1, h2, h3, h4⟩, e0⟩ := if_some e0
  cases e0
  have := fList_some ef
  subst this
  refine wpAny_Call_Name_kw (ld_blt (u := .builtin "sorted") I hg hm (by decide +kernel) ?_ (by decide))
  refine PyProof.Rows.callWith_kw (thn ((pa_cons ha pa_nil he0).run pos pins s σ H (fun vs H1 => ∃ v, vs = [v] ∧ Ex H H1 ∧ RB X.K G σ sd H1 v (.list ds)) I ⟨H0, G, sd, _, r, ed, fun v H1 e1 rv => ⟨v, rfl, e1, rv⟩⟩) fun us s1 hu => ?_) he hpl hall hnone
  obtain ⟨vs, H1, I1, r1, v, rfl, e1, rv⟩ := hu
  obtain ⟨pl, xs, rfl, hr', ra⟩ := RB.items r e1 rv
  rw [Vals.ref1 r1]
  have rs1 := r.mono e1
  show wpAny _ _ (evalAll ((do let v ← eval (.Lambda params body scope lpos) X.env; standAt pos; pure v) :: [])) _ _ s1
  refine wpAny_evalAll_cons (wpAny_bind (lam_new I1 TB hcode t0 t1 rs1.tb hdef S.nofree fun f c' pm ctv H2 s2 I2 e2 gf nf ff hc => wpAny_bind (wpAny_standAt (wpAny_pure (wpAny_evalAll_nil ?_)))))
  have rs2 := rs1.mono e2
  have hz := keysOf_len ek
  have lx := ra.length
  have zl : ∀ x ∈ xs.zip (ds.zip ks), R X.K (Cl G σ sd) H1 x.1 x.2.1 ∧ me (startS N.length [x.2.1]) = some x.2.2 ∧ x.2.2 ∈ ks := fun x hx => by
    obtain ⟨j, hj⟩ := List.getElem?_of_mem hx
    rw [List.getElem?_zip_eq_some] at hj
    obtain ⟨z1, z2⟩ := hj
    rw [List.getElem?_zip_eq_some] at z2
    obtain ⟨d', hd', rd'⟩ := ra.getV z1
    rw [z2.1] at hd'
    cases hd'
    exact ⟨rd', keysOf_at ek z2.1 z2.2, List.mem_of_getElem? z2.2⟩
  have m1 : (xs.zip (ds.zip ks)).map (·.1) = xs := List.map_fst_zip (by rw [List.length_zip]; omega)
  have m2 : (xs.zip (ds.zip ks)).map (·.2) = ds.zip ks := List.map_snd_zip (by rw [List.length_zip]; omega)
  have m3 : (xs.zip (ds.zip ks)).map (fun b => b.2.2) = ks := by
    have : (fun b : V × D × D => b.2.2) = (fun b : D × D => b.2) ∘ (·.2) := rfl
    rw [this, ← List.map_map, m2]
    exact List.map_snd_zip (by omega)
  refine sortkey_run (Q := Q) (l := pl) (bs := xs.zip (ds.zip ks)) I2 (hr.mono hkk) (e2.sql hr') m1 gf nf ff hc S (fun s u => hb f c' pm ctv s u) (fun A outer s H hr' => hbody f c' A outer s H hr') (fun b hbm => ?_) (by rw [m3]; exact h1) (by rw [m3]; exact h2) (by rw [m3]; exact h3) (by rw [m3]; exact flat_plain.go ks h4) fun pp H3 e3 np np3 => ?_
  · intro H3 e3 Q' hq
    obtain ⟨z1, z2, z3⟩ := zl b hbm
    have rb := (z1.ex (e2.trans e3))
    refine ⟨H3, _, startS N.length [b.2.1], b.2.2, rs_start (.cons rb .nil) (e3.tb rs2.tb) (by
      have := S.pre
      have h5 := congrArg List.length this
      rw [List.length_take] at h5
      simp at h5 ⊢
      omega), z2, fun kv H4 e4 rk => hq kv H4 e4 (R.fx _ _ (flat_mem h4 z3) rk)⟩
  · have e13 := e2.trans e3
    have srt : (xs.zip (ds.zip ks)).mergeSort (W.dataLe false fun b => b.2.2) = (xs.zip (ds.zip ks)).mergeSort fun a b => W.dataLe false (fun b : D × D => b.2) a.2 b.2 := rfl
    have em : ((xs.zip (ds.zip ks)).mergeSort (W.dataLe false fun b => b.2.2)).map (·.2) = (ds.zip ks).mergeSort (W.dataLe false fun b => b.2) := by
      have z : ((xs.zip (ds.zip ks)).mergeSort (W.dataLe false fun b => b.2.2)).map (·.2) = ((xs.zip (ds.zip ks)).map (·.2)).mergeSort (W.dataLe false fun b => b.2) :=
        List.map_mergeSort (f := fun x : V × D × D => x.2) fun a _ b _ => rfl
      rw [z, m2]
    refine q pp _ _ (e1.back (e2.back np)) ((e1.trans e13).trans (Ex.new np3)) upd_same ?_
    have hall' : ∀ x ∈ ((xs.zip (ds.zip ks)).mergeSort (W.dataLe false fun b => b.2.2)).map (fun b => (b.1, b.2.1)), R X.K (Cl G σ sd) H3 x.1 x.2 := fun x hx => by
      obtain ⟨b, hb', rfl⟩ := List.mem_map.mp hx
      exact (zl b ((List.mergeSort_perm _ _).mem_iff.mp hb')).1.ex e13
    have rr := RA.pairs hall'
    rw [List.map_map, List.map_map] at rr
    have l2 : ((xs.zip (ds.zip ks)).mergeSort (W.dataLe false fun b => b.2.2)).map ((fun x : V × D => x.2) ∘ fun b : V × D × D => (b.1, b.2.1)) = sortByK ds ks := by
      unfold sortByK
      rw [← em, List.map_map]
      rfl
    rw [l2] at rr
    exact (rr.free np3).ex (Ex.new np3)
end
end DD

/-! # Own exceptions as data: made, asked for their class, their fields read -/
namespace DD
variable [LTb]
open PySem PySem.Spec PyProof.Rows L2 L2H
theorem exd_frz' {e : Addr} {fs : List (Str × V)} {o : Obj} {u : HO} : exd e fs ≠ .frz o u := fun z => by
  have z' : HO.ext _ = HO.frz o u := z
  cases z'
theorem exd_tbl' {e : Addr} {fs : List (Str × V)} {ps : Array Value} : exd e fs ≠ .tbl ps := fun z => by
  have z' : HO.ext _ = HO.tbl ps := z
  cases z'
/-- C(e, ..) kept: what the new exception's __init__ keeping sp must leave -/
def tMkV (C : Addr) (sp : Sp) (ta : TA) : TE := fun σ H Q => ta σ H fun vs H1 => vs.length ≤ 1000 ∧ ∀ a, H1 a = none → sp (.ref a :: (vs ++ [])) (upd H1 a (exo a C none))
  (fun v H2 => v = .non ∧ ∃ (d : Addr) (fs : List (Str × V)), H2 a = some (exo a C (some d)) ∧ H2 d = some (exd d fs) ∧ H1 d = none ∧ Q (.ref a) (upd H2 d (.xd fs))) (fun _ _ _ => False)
section
variable {X : Cx} {CX : CXT} {x : Str} {C fI : Addr} {k : Nat} {fd : FuncData} {ps : List Str} {sp : Sp} {e : Expr} {es : List Expr} {ta : TA} {p pos : Pos}
theorem pe_init (T : OexC X.K C) (iC : PySem.W.findIn X.K (.ref C) "__init__" = some (some (.ref fI))) (tI : PySem.W.typeIn X.K (.ref fI) = some (.type "function")) (F1 : FnOk X.prog X.w X.K X.mg X.base CX k fI fd ps sp)
    (hr : Room (k + 1) X.A) (hb : Binds X.K fd ps []) (hx : Passes CX X fun _ _ _ => False) (hg : Gl X x) (hm : X.mg x = some (.ref C)) (ha : PA X (e :: es) ta) (hdb : (x == ("__debug__" : Str)) = false := by decide)
    (he : starEach (e :: es) X.env = (false, eval e X.env) :: starEach es X.env := by rfl) (hpl : (backTo pos (starEach es X.env)).any (·.1) = false := by rfl) : PE X (.Call (.Name x p) (e :: es) [] pos) (tMkV C sp ta) := by
  refine ⟨fun pins s σ H Q I h => ?_⟩
  obtain ⟨nm, q, N, bs, bm, sn, sub, ab, col, dd, k0, k1, k2, k3, k5, hC, hbm⟩ := T.cls
  refine wpAny_Call_Name_kw (ld_glob I hg hm (PySem.W.callWith_K (h₀ := X.base) I.ok.mod.kin T.kC (thn (ha.run pos pins s σ H _ I h) ?_) he hpl) hdb)
  rintro us ⟨hp, g, dr, tk, os⟩ ⟨vs, H1, I1, r1, hz, q1⟩
  refine ⟨I1.kIn, ?_⟩
  have r0 : Vals (vs ++ []) (us ++ []) := r1.append .nil
  have new : H1 (hp.objs.size + 1) = none := I1.hok.fresh (Nat.le_succ _)
  have want := q1 _ new
  have ho : ((hp.push (PySem.W.kdv_tup us)).push (PySem.HandSPX.excO C hp.objs.size)).get? (hp.objs.size + 1) = some (PySem.HandSPX.excO C hp.objs.size) := by heap_get
  have keep : ∀ b o, hp.get? b = some o → ((hp.push (PySem.W.kdv_tup us)).push (PySem.HandSPX.excO C hp.objs.size)).get? b = some o := fun _ _ z => Heap.get?_push_of_some _ (Heap.get?_push_of_some _ z)
  have I2 := I1.laid (t' := tk) keep (Nat.le_succ _) (exo_ok (H := upd H1 (hp.objs.size + 1) (exo (hp.objs.size + 1) C none)) ho)
  have rr : Vals (V.ref (hp.objs.size + 1) :: (vs ++ [])) (Value.ref (hp.objs.size + 1) :: (us ++ [])) := .cons rfl r0
  have len : (Value.ref (hp.objs.size + 1) :: us ++ []).length = ps.length := by
    rw [← F1.len _ _ _ _ want]
    exact rr.length.symm
  have small : us.length ≤ sizeLine := by
    have := Paired.length r1
    rw [sizeLine_eq]
    omega
  refine wpAny_call (PySem.HandSPX.call_own F.excBase_ValueError (fun Y => PySem.HandSPX.refsVE_contains Y bm hbm) (I1.kIn _ _ hC) (PySem.W.looks_findIn I1.kIn iC) (fun self => PySem.W.bind_fn I1.kIn self tI) small ?_)
  refine codeAny_mono (F1.run _ X.stack _ _ _ _ _ _ (fun _ _ _ => False) (hr.make C us []) (I2.env0.make C us []) (hb _ (Value.ref (hp.objs.size + 1) :: us) I2.kIn len) rr want) ?_
  rintro (er | fl) s' done
  · exact (hx pins σ _ _ er s' I2 done)
  · cases fl with
    | ret u =>
      obtain ⟨v, H2, os2, bare2, un2, hok2, rv, ev, d, fs, ea, ed, hd1, q2⟩ := done
      subst ev
      obtain ⟨h2, g2, d2, t2, os'⟩ := s'
      refine ⟨rv, .ref (hp.objs.size + 1), upd H2 d (.xd fs), ?_, rfl, q2⟩
      obtain ⟨mA, hns, rel⟩ := exd_at hok2 ed
      have nd : ∀ {b : Addr}, H2 b = none → b ≠ d := fun {b} z w => by rw [w, ed] at z; cases z
      have U : Un (frs X.stack) [] (upd H1 (hp.objs.size + 1) (exo (hp.objs.size + 1) C none)) (upd H2 d (.xd fs)) ((hp.push (PySem.W.kdv_tup us)).push (PySem.HandSPX.excO C hp.objs.size)) h2 := {
        keep := un2.keep
        slot := un2.slot
        there := un2.there
        free := fun b o z n hx => by
          have y := un2.free b o z n hx
          rw [upd_ne (nd y)]; exact y
        tups := fun b xs z => by
          have y := un2.tups b xs z
          rw [upd_ne (at_ne ed y exd_tup)]; exact y
        frzs := fun b o v z => by
          have y := un2.frzs b o v z
          rw [upd_ne (at_ne ed y exd_frz')]; exact y
        tbls := fun b ps z => by
          obtain ⟨m, y⟩ := un2.tbls b ps z
          exact ⟨m, by rw [upd_ne (at_ne ed y exd_tbl')]; exact y⟩ }
      have hok3 : HOk X.prog X.w (upd H2 d (.xd fs)) h2 := fun b o z => by
        by_cases hbd : b = d
        · subst hbd
          rw [upd_same] at z
          cases z
          exact ⟨mA, hns, rel⟩
        · rw [upd_ne hbd] at z
          exact (hok2 b o z).stay (fun c v _ y => y) (fun c hc => by rw [upd_ne (at_ne ed hc exd_own)]; exact hc) (fun c xs hc => by rw [upd_ne (at_ne ed hc exd_tup)]; exact hc)
      exact I2.call' (ch := []) os2 U hok3 bare2 (fun b z => absurd z (by simp))
    | next => exact False.elim done
    | brk => exact False.elim done
    | cont => exact False.elim done
/-- C(), C without own __init__ -/
theorem pe_exc0 {bmB : List Value} {B newId initId : String} (F : ExcBaseFacts B newId initId bmB) (q : PySem.W.excIn X.K C bmB newId = true) (gC : X.mg x = some (.ref C)) (kC : PySem.W.keepIn X.K (.ref C) = true) (hg : Gl X x) (hdb : (x == ("__debug__" : Str)) = false := by decide) :
    PE X (.Call (.Name x p) [] [] pos) (fun σ H Q => ∀ a, H a = none → Q (.ref a) (upd H a (exo a C none))) := by
  refine ⟨fun pins s σ H Q I h => ?_⟩
  refine wpAny_Call_Name_kw (ld_glob I hg gC ?_ hdb)
  refine PySem.W.callWith_K0 I.kIn kC ?_
  show wpAny _ _ (call (.ref C) []) _ _ _
  obtain ⟨bm, N, nm, qn, bs, hdct, sn, sub, ab, col, dd, k0, k1, k2, k3, k5, mN, hC, hN, hni, T⟩ := exc_obj I.kIn q
  refine wpAny_call_exc_subT F T hC hN hni (fun h' a hm => ?_) (by show 0 ≤ sizeLine; exact Nat.zero_le _)
  have hn : H a = none := I.hok.gone hm.new
  obtain ⟨t, ht, _, _⟩ := hm.there
  exact ⟨.ref a, upd H a (exo a C none), I.laidN hm.keeps hm.new hn (exo_ok ht), rfl, h a hn⟩
end
/-! ### over data -/
def fmtAll (ds : List D) : Bool := flatD.go ds && ds.all fun d => (fmtB d).isSome
/-- C(e, ..) -/
def mMkE (c : Str) (ns : List Str) (ml : ML) : M := fun s => (ml s).bind fun ds => if fmtAll ds = true ∧ ds.length = ns.length ∧ ns.length ≤ 20 then some (objD c ns ds) else none
/-- the names' last place in a row -/
def lookS (n : Str) : List D → List D → Option D
  | .str x :: ns, d :: ds => match lookS n ns ds with
    | some r => some r
    | none => if n = x then some d else none
  | _, _ => none
/-- e.n -/
def fldD (n : Str) : D → Option D
  | .dict [(.dict [], .str _), (.list ns, .list ds)] => lookS n ns ds
  | _ => none
/-- isinstance(e, c) -/
def isD (f : Str → Option Bool) : D → Option D
  | .dict [(.dict [], .str c), (.list _, .list _)] => (f c).map .bool
  | _ => none
theorem lookS_ok {K : Fg} {B : Addr → Prop} {H : Hp} {n : Str} {d : D} : ∀ {ns : List Str} {vs : List V} {ds : List D}, ns.length = vs.length → RA K B H vs ds → lookS n (ns.map .str) ds = some d → ∃ v, (fieldsOf ns vs).lookup n = some v ∧ R K B H v d
  | [], _, _, _, _, h => by simp [lookS] at h
  | x :: ns, [], _, z, _, _ => by cases z
  | x :: ns, v :: vs, _, z, .cons r1 r2, h => by
    have z' : ns.length = vs.length := by simpa using z
    have e : fieldsOf (x :: ns) (v :: vs) = fieldsOf ns vs ++ [(x, v)] := by unfold fieldsOf; simp
    rw [e, List.lookup_append]
    rw [List.map_cons] at h
    unfold lookS at h
    split at h
    · rename_i r hr
      cases h
      obtain ⟨u, h1, h2⟩ := lookS_ok z' r2 hr
      exact ⟨u, by rw [h1]; rfl, h2⟩
    · rename_i hr
      obtain ⟨h1, h2⟩ := if_some h
      cases h2
      subst h1
      cases q : (fieldsOf ns vs).lookup n with
      | none => exact ⟨v, by simp [List.lookup], r1⟩
      | some u => exact (lookS_no z' r2 q hr).elim
where lookS_no {K : Fg} {B : Addr → Prop} {H : Hp} {n : Str} {u : V} : ∀ {ns : List Str} {vs : List V} {ds : List D}, ns.length = vs.length → RA K B H vs ds → (fieldsOf ns vs).lookup n = some u → lookS n (ns.map .str) ds = none → False
  | [], vs, _, z, _, q, _ => by
    cases vs with
    | nil => simp [fieldsOf] at q
    | cons _ _ => cases z
  | x :: ns, [], _, z, _, _, _ => by cases z
  | x :: ns, v :: vs, _, z, .cons r1 r2, q, h => by
    have z' : ns.length = vs.length := by simpa using z
    have e : fieldsOf (x :: ns) (v :: vs) = fieldsOf ns vs ++ [(x, v)] := by unfold fieldsOf; simp
    rw [e, List.lookup_append] at q
    rw [List.map_cons] at h
    unfold lookS at h
    split at h
    · cases h
    · rename_i hr
      cases q2 : (fieldsOf ns vs).lookup n with
      | some u' => exact lookS_no z' r2 q2 hr
      | none =>
        rw [q2] at q
        by_cases hx : n = x
        · rw [if_pos hx] at h; cases h
        · have : (n == x) = false := by simpa using hx
          simp [List.lookup, this] at q
/-- the table's classes: what each says -/
def ClsK (K : Fg) : Prop := ∀ c C ns, (c, C, ns) ∈ LTb.E → ExcR K C ∧ ∀ n ∈ ns, PySem.W.findIn K (.ref C) n = some none
section
variable {K : Fg} {X : Cx} {E : XK} {ml : ML} {m : M} {x n : Str} {C : Addr} {ns : List Str} {k j : Nat} {e ea eb : Expr} {es : List Expr} {p pos : Pos} {B : Addr → Prop} {H : Hp}
theorem mem_of_look {y : V} {vs : List V} (h : (fieldsOf ns vs).lookup n = some y) : n ∈ ns := by
  have h1 : (n, y) ∈ fieldsOf ns vs := by
    generalize fieldsOf ns vs = l at h
    induction l with
    | nil => cases h
    | cons q l ih =>
      rw [List.lookup_cons] at h
      split at h
      · rename_i z
        cases h
        have : n = q.1 := by simpa using z
        subst this
        exact List.mem_cons_self
      · exact List.mem_cons_of_mem _ (ih h)
  unfold fieldsOf at h1
  exact (List.of_mem_zip (List.mem_reverse.mp h1)).1
theorem R.objAt {v : V} {c : Str} {l : List D} {ds : List D} (h : R K B H v (.dict [(.dict [], .str c), (.list l, .list ds)])) : ∃ a C ns vs, v = .ref a ∧ l = ns.map .str ∧ (c, C, ns) ∈ LTb.E ∧ ObX H a C (fieldsOf ns vs) ∧ ns.length = vs.length ∧ RA K B H vs ds := by
  generalize hd : PyData.dict [(.dict [], .str c), (.list l, .list ds)] = d at h
  cases h with
  | dic _ _ hp =>
    cases hd
    cases hp with
    | cons h1 _ => cases h1.1
  | obj h1 h2 h3 h4 =>
    cases hd
    exact ⟨_, _, _, _, rfl, rfl, h1, h2, h3, h4⟩
  | _ => cases hd
theorem x_mkE (T : ExcK X.prog X.w X.K X.mg X.base k x C ns) (hin : (x, C, ns) ∈ LTb.E) (hK : X.K = K) (hr : Room j X.A) (hk : k + 1 ≤ j) (hg : Gl X x) (ha : XAb K X (e :: es) ml)
    (hdb : (x == ("__debug__" : Str)) = false := by decide) (he : starEach (e :: es) X.env = (false, eval e X.env) :: starEach es X.env := by rfl) (hpl : (backTo pos (starEach es X.env)).any (·.1) = false := by rfl) :
    XE K X (.Call (.Name x p) (e :: es) [] pos) (mMkE x ns ml) := by
  subst hK
  obtain ⟨fI, fd, iC, tI, F1, b⟩ := T.init
  refine pe_imp (pe_init T.oex iC tI F1 (hr.mono hk) b pass0 hg T.gC ha hdb he hpl) fun σ H Q ⟨H0, G, s, d, r, e1, q⟩ => ?_
  obtain ⟨ds, hm, e1⟩ := some_bind e1
  obtain ⟨⟨hf, hl, hn⟩, e1⟩ := if_some e1
  cases e1
  obtain ⟨hf1, hf2⟩ := Bool.and_eq_true_iff.mp hf
  refine ⟨H0, G, s, ds, r, hm, fun vs H1 e1 rv => ⟨by have := rv.length; omega, fun a hna => ?_⟩⟩
  have hvl : vs.length = ns.length := rv.length.trans hl
  refine ⟨a, vs ++ [], ds, fun _ => True, rfl, by rw [List.append_nil]; exact hvl, ?_, fun d hd => List.all_eq_true.mp hf2 d hd, upd_same, fun d H2 hd ne h1 h2 h3 => ?_⟩
  · rw [List.append_nil]
    exact rv.ex (Ex.new hna)
  · rw [upd_ne ne] at hd
    rw [List.append_nil] at h2
    have ex : Ex H1 (upd H2 d (.xd (fieldsOf ns vs))) := .full fun b o hb => by
      have b1 : b ≠ a := fun z => by rw [z, hna] at hb; cases hb
      have b2 : b ≠ d := fun z => by rw [z, hd] at hb; cases hb
      rw [upd_ne b2, h3 b b1 b2, upd_ne b1]
      exact hb
    exact ⟨rfl, d, fieldsOf ns vs, h1, h2, hd, q _ _ (e1.trans ex) (.obj hin (.inl ⟨d, by rw [upd_ne (Ne.symm ne)]; exact h1, upd_same⟩) hvl.symm (RA.flat _ _ hf1 (rv.ex ex)))⟩
theorem x_mk0 {bmB : List Value} {B newId initId : String} (F : ExcBaseFacts B newId initId bmB) (q : PySem.W.excIn X.K C bmB newId = true) (gC : X.mg x = some (.ref C)) (kC : PySem.W.keepIn X.K (.ref C) = true) (hin : (x, C, []) ∈ LTb.E) (hK : X.K = K) (hg : Gl X x) (hdb : (x == ("__debug__" : Str)) = false := by decide) :
    XE K X (.Call (.Name x p) [] [] pos) (mC (objD x [] [])) := by
  subst hK
  refine pe_imp (pe_exc0 F q gC kC hg hdb) fun σ H Q ⟨H0, G, s, d, r, e1, q⟩ => fun a hna => ?_
  cases e1
  exact q _ _ (Ex.new hna) (.obj hin (.inr ⟨rfl, upd_same⟩) rfl .nil)
/-- isinstance(e, c) of an object -/
def rIsD (K : Fg) : List V → Hp → VK → Prop := fun xs H Q => ∃ (a C : Addr) (c : V) (cv : Value) (b : Bool) (fs : List (Str × V)), xs = [.ref a, c] ∧ (∀ u, RelV c u → u = cv) ∧ ExcR K C ∧ PySem.W.kitOne K (.ref C) cv = some b ∧ ObX H a C fs ∧ Q (.bl b) H
theorem call_isD : CallR X (.builtin "isinstance") (rIsD X.K) := by
  rintro pins s σ H xs us Q I r ⟨a, C, c, cv, b, fs, rfl, hcv, T, e, ho, q⟩
  obtain ⟨u1, u2, rfl, r1, r2⟩ := vals2 r
  cases (show u1 = Value.ref a from r1)
  have ec := hcv _ r2
  subst ec
  rcases ho with ⟨dd, h1, h2⟩ | ⟨_, h1⟩
  · obtain ⟨t1, hget⟩ := exo_at I.hok h1
    have hx : ObjOk X.prog X.w H s.heap dd (.xd fs) := I.hok dd _ h2
    obtain ⟨mA, hns, _⟩ := hx
    obtain ⟨od, hod, _⟩ := lookIn_ns hns
    have J : PySem.W.InstAt s.heap a { cls := .ref C, dict := some dd, data := .fields #[.ref t1, .none, .none, .none, .bool false, .none] } C (some od) := ⟨hget, rfl, rfl, hod⟩
    exact PySem.W.kia_one (PySem.W.kitx_exc (gt := none) T.isC T.xf.ga T.xf.gg T.xf.exC T.ha T.hn T.ht T.hm) I.kIn J e (fun z => nomatch z) fun tk => ⟨.bl b, H, I.tok tk, rfl, q⟩
  · obtain ⟨t1, hget⟩ := exo_at I.hok h1
    have J : PySem.W.InstAt s.heap a { cls := .ref C, dict := none, data := .fields #[.ref t1, .none, .none, .none, .bool false, .none] } C none := ⟨hget, rfl, rfl, trivial⟩
    exact PySem.W.kia_one (PySem.W.kitx_exc (gt := none) T.isC T.xf.ga T.xf.gg T.xf.exC T.ha T.hn T.ht T.hm) I.kIn J e (fun z => nomatch z) fun tk => ⟨.bl b, H, I.tok tk, rfl, q⟩
theorem x_isD {c : V} {cv : Value} {f : Str → Option Bool} (T : ClsK X.K) (hk : ∀ n C ns b, (n, C, ns) ∈ LTb.E → f n = some b → PySem.W.kitOne X.K (.ref C) cv = some b) (hK : X.K = K) (hg : Gl X "isinstance") (hm : X.mg "isinstance" = none) (ha : XE K X ea m) (hb : PE X eb (tC c)) (hcv : ∀ u, RelV c u → u = cv)
    (he : starEach [ea, eb] X.env = (false, eval ea X.env) :: starEach [eb] X.env := by rfl) (hpl : (backTo pos (starEach [eb] X.env)).any (·.1) = false := by rfl) (hb2 : starEach [eb] X.env = (false, eval eb X.env) :: starEach [] X.env := by rfl) :
    XE K X (.Call (.Name "isinstance" p) [ea, eb] [] pos) (m1 (isD f) m) := by
  subst hK
  refine pe_imp (pe_callB call_isD hg hm (by decide +kernel) (pa_cons ha (pa_cons hb pa_nil hb2) he) (by decide) (by decide) he hpl) fun σ H Q ⟨H0, G, s, d, r, e, q⟩ => ?_
  obtain ⟨x, ex, e⟩ := some_bind e
  unfold isD at e
  split at e
  · obtain ⟨b, e1, rfl⟩ := opt_mapN e
    refine ⟨H0, G, s, _, r, ex, fun v H1 h1 rv => ?_⟩
    obtain ⟨a, C, ns, vs, rfl, _, hin, ho, _, _⟩ := rv.objAt
    exact ⟨a, C, c, cv, b, _, rfl, hcv, (T _ _ _ hin).1, hk _ _ _ _ hin e1, ho, q _ H1 h1 (.bl b)⟩
  · cases e
theorem x_fld (T : ClsK X.K) (hK : X.K = K) (ha : XE K X e m) (hb : attributeBase e n X.env (eval e X.env) = eval e X.env := by rfl) : XE K X (.Attribute e n pos) (m1 (fldD n) m) := by
  subst hK
  refine ⟨fun pins s σ H Q I ⟨H0, G, sd, d, r, e1, q⟩ => ?_⟩
  obtain ⟨x, ex, e1⟩ := some_bind e1
  refine attr_of hb (thn (ha.run pins s σ H (fun v H1 => Ex H H1 ∧ R X.K (Cl G σ sd) H1 v x) I ⟨H0, G, sd, x, r, ex, fun v H1 h1 rv => ⟨h1, rv⟩⟩) fun u s1 ⟨v, H1, I1, rx, h1, rv⟩ => ?_)
  unfold fldD at e1
  split at e1
  · obtain ⟨a, C, ns, vs, rfl, rfl, hin, ho, hl, ra⟩ := rv.objAt
    obtain rfl : u = Value.ref a := rx
    obtain ⟨y, hy, ry⟩ := lookS_ok hl ra e1
    obtain ⟨T1, T2⟩ := T _ _ _ hin
    rcases ho with ⟨dd, o1, o2⟩ | ⟨z, _⟩
    · obtain ⟨t1, hget⟩ := exo_at I1.hok o1
      have hx : ObjOk X.prog X.w H1 s1.heap dd (.xd (fieldsOf ns vs)) := I1.hok dd _ o2
      obtain ⟨mA, hns, hr⟩ := hx
      obtain ⟨od, hod, hlk⟩ := lookIn_ns hns
      obtain ⟨u, hu, ru⟩ := RelO.some_of (v := y) (o := mA n) (by rw [← hy]; exact hr n)
      have J : PySem.W.InstAt s1.heap a { cls := .ref C, dict := some dd, data := .fields #[.ref t1, .none, .none, .none, .bool false, .none] } C (some od) := ⟨hget, rfl, rfl, hod⟩
      exact PySem.HandSPX.exc_get I1.kIn J T1.xf.ga T1.xf.gg T1.xf.exC (PySem.W.findObj_own T1.xf.hdC (T2 n (mem_of_look hy)) rfl (by rw [hlk, hu])) (handed_of ru) ⟨y, H1, I1.tok _, ru, q _ H1 h1 ry⟩
    · rw [z] at hy; cases hy
  · cases e1
end
end DD

/-! # Own exception classes over one base class: which one is which -/
namespace DD
open PySem PySem.Spec PyProof.Rows L2
/-- the class named c at C, its base the class at P, whose base is ValueError -/
def EC (K : Fg) (P : Addr) (c : Str) (C : Addr) : Prop := ∃ q N bs hd sn sub ab col dd k0 k1 k2 k3 k5, K.lookup C = some (excClassObj c q C N bs [.ref P, .type "ValueError", .type "Exception", .type "BaseException", .type "object"] hd sn sub ab col dd k0 k1 k2 k3 k5 "ValueError.__new__")
theorem exc_name {c c' q q' : Str} {C C' N N' : Addr} {bs bs' bm bm' : List Value} {hd hd' : Bool} {sn sn' : List Str} {sub sub' : List Value} {ab ab' : Bool} {col col' : Option Bool} {dd dd' : Option Addr} {k0 k1 k2 k3 k5 k0' k1' k2' k3' k5' : Option Value} {i i' : String}
    (h : excClassObj c q C N bs bm hd sn sub ab col dd k0 k1 k2 k3 k5 i = excClassObj c' q' C' N' bs' bm' hd' sn' sub' ab' col' dd' k0' k1' k2' k3' k5' i') : c = c' := by
  unfold excClassObj at h
  simp only [Obj.mk.injEq, Data.cls.injEq, ClassData.mk.injEq] at h
  exact h.2.2.1.1
theorem exc_lookup {K : Fg} {c c' q q' : Str} {C N N' A A' : Addr} {bs bs' bm bm' : List Value} {hd hd' : Bool} {sn sn' : List Str} {sub sub' : List Value} {ab ab' : Bool} {col col' : Option Bool} {dd dd' : Option Addr} {k0 k1 k2 k3 k5 k0' k1' k2' k3' k5' : Option Value} {i i' : String}
    (h : K.lookup C = some (excClassObj c q A N bs bm hd sn sub ab col dd k0 k1 k2 k3 k5 i)) (h' : K.lookup C = some (excClassObj c' q' A' N' bs' bm' hd' sn' sub' ab' col' dd' k0' k1' k2' k3' k5' i')) : c = c' := exc_name (Option.some.inj (h.symm.trans h'))
theorem ec_cls {K : Fg} {P C : Addr} {c : Str} (h : EC K P c C) : ∃ cd, PySem.W.clsIn K C = some cd ∧ cd.mro = [.ref C, .ref P, .type "ValueError", .type "Exception", .type "BaseException", .type "object"] ∧ PySem.W.typeIn K (.ref C) = some (.type "type") := by
  obtain ⟨q, N, bs, hd, sn, sub, ab, col, dd, k0, k1, k2, k3, k5, e1⟩ := h
  refine ⟨{ name := c, bases := bs, mro := [.ref C, .ref P, .type "ValueError", .type "Exception", .type "BaseException", .type "object"], ns := N, qualname := q, hasDict := hd, slotNames := sn, subclasses := sub, abstract := ab, collection := col, hasDel := false }, ?_, rfl, ?_⟩
  · unfold PySem.W.clsIn
    rw [e1] <;> rfl
  · show (K.lookup C).map (·.cls) = _
    rw [e1]
    rfl
/-- isinstance of an instance of c, asked for d -/
theorem ec_kit {K : Fg} {P C D : Addr} {c d : Str} (h1 : EC K P c C) (h2 : EC K P d D) (hp : D ≠ P) (hu : c = d → C = D) : PySem.W.kitOne K (.ref C) (.ref D) = some (decide (c = d)) := by
  unfold PySem.W.kitOne
  by_cases z : C = D
  · subst z
    obtain ⟨q, N, bs, hd, sn, sub, ab, col, dd, k0, k1, k2, k3, k5, e1⟩ := h1
    obtain ⟨q', N', bs', hd', sn', sub', ab', col', dd', k0', k1', k2', k3', k5', e2⟩ := h2
    rw [exc_lookup e1 e2]
    simp
  · have n : c ≠ d := fun w => z (hu w)
    have nb : (Value.ref C == Value.ref D) = false := by simpa using z
    obtain ⟨cd, a1, a2, _⟩ := ec_cls h1
    obtain ⟨cd', b1, _, b3⟩ := ec_cls h2
    rw [if_neg (by rw [nb]; exact Bool.false_ne_true)]
    unfold PySem.W.kitCls
    simp only []
    rw [b1, b3, if_pos (by simp)]
    unfold PySem.W.subIn
    simp only []
    unfold PySem.W.mroIn
    rw [a1, Option.bind_some, a2]
    have hz : ¬ D = C := fun w => z w.symm
    simp [n, hz, hp]
section
variable [LTb]
/-- the classes of the table are known, each by its own name -/
structure TblK (K : Fg) (P : Addr) (p : Str) : Prop where
  all : ∀ x ∈ LTb.E, EC K P x.1 x.2.1
  base : ∃ q N bs bm hd sn sub ab col dd k0 k1 k2 k3 k5 i, K.lookup P = some (excClassObj p q P N bs bm hd sn sub ab col dd k0 k1 k2 k3 k5 i)
  names : (LTb.E.map (·.1)).Nodup
  other : p ∉ LTb.E.map (·.1)
theorem nodup_fst {α β : Type} : ∀ {l : List (α × β)}, (l.map (·.1)).Nodup → ∀ {x y : α × β}, x ∈ l → y ∈ l → x.1 = y.1 → x = y
  | [], _, _, _, h, _, _ => by cases h
  | p :: l, hn, x, y, hx, hy, e => by
    rw [List.map_cons, List.nodup_cons] at hn
    rcases List.mem_cons.mp hx with z1 | h1
    · rcases List.mem_cons.mp hy with z2 | h2
      · rw [z1, z2]
      · exact (hn.1 (by rw [← z1, e]; exact List.mem_map_of_mem h2)).elim
    · rcases List.mem_cons.mp hy with z2 | h2
      · exact (hn.1 (by rw [← z2, ← e]; exact List.mem_map_of_mem h1)).elim
      · exact nodup_fst hn.2 h1 h2 e
theorem tbl_kit {K : Fg} {P D : Addr} {p d : Str} {ms : List Str} (T : TblK K P p) (hd : (d, D, ms) ∈ LTb.E) (n : Str) (C : Addr) (ns : List Str) (b : Bool) (h : (n, C, ns) ∈ LTb.E) (e : (fun n : Str => some (decide (n = d))) n = some b) : PySem.W.kitOne K (.ref C) (.ref D) = some b := by
  cases e
  refine ec_kit (T.all _ h) (T.all _ hd) (fun z => ?_) fun z => ?_
  · obtain ⟨q, N, bs, bm, hd', sn, sub, ab, col, dd, k0, k1, k2, k3, k5, i, e1⟩ := T.base
    obtain ⟨q', N', bs', hd'', sn', sub', ab', col', dd', k0', k1', k2', k3', k5', e2⟩ := T.all _ hd
    dsimp only at e2
    rw [z] at e2
    exact T.other (exc_lookup e1 e2 ▸ List.mem_map_of_mem (f := (·.1)) hd)
  · have := nodup_fst T.names h hd z
    cases this
    rfl
/-- the base class itself -/
theorem tbl_base {K : Fg} {P : Addr} {p : Str} (T : TblK K P p) (hc : (PySem.W.clsIn K P).isSome = true) (ht : PySem.W.typeIn K (.ref P) = some (.type "type")) (n : Str) (C : Addr) (ns : List Str) (b : Bool) (h : (n, C, ns) ∈ LTb.E) (e : (fun _ : Str => some true) n = some b) : PySem.W.kitOne K (.ref C) (.ref P) = some b := by
  cases e
  unfold PySem.W.kitOne
  split
  · rfl
  obtain ⟨cd, a1, a2, _⟩ := ec_cls (T.all _ h)
  dsimp only at a1 a2
  unfold PySem.W.kitCls
  simp only []
  rw [ht, if_pos (by rw [hc]; simp)]
  unfold PySem.W.subIn
  simp only []
  unfold PySem.W.mroIn
  rw [a1, Option.bind_some, a2]
  simp
theorem tbl_value {K : Fg} {P : Addr} {p : Str} (T : TblK K P p) (hm : PySem.W.kitMeta "ValueError" = true) (n : Str) (C : Addr) (ns : List Str) (b : Bool) (h : (n, C, ns) ∈ LTb.E) (e : (fun _ : Str => some true) n = some b) : PySem.W.kitOne K (.ref C) (.type "ValueError") = some b := by
  cases e
  unfold PySem.W.kitOne
  split
  · rfl
  obtain ⟨cd, a1, a2, _⟩ := ec_cls (T.all _ h)
  dsimp only at a1 a2
  unfold PySem.W.kitCls
  simp only []
  rw [if_pos hm]
  unfold PySem.W.subIn
  simp only []
  unfold PySem.W.mroIn
  rw [a1, Option.bind_some, a2]
  simp
theorem meta_value : PySem.W.kitMeta "ValueError" = true := by first | rfl | decide +kernel
end
end DD

/-! # while, list.clear, list.insert, << -/
namespace DD
variable [LTb]
open PySem L2
def mWhile (mt : MB) (mb : MS) : Nat → MS
  | 0, _ => .no
  | n + 1, s => match mt s with
    | none => .no
    | some b => if b = true then (match mb s with
      | .nx s' => mWhile mt mb n s'
      | .ct s' => mWhile mt mb n s'
      | .bk s' => .nx s'
      | .rt d => .rt d
      | .rtl ds => .rtl ds
      | .ex c fs => .ex c fs
      | .no => .no) else .nx s
section
variable {K : Fg} {X : Cx} {C : XC} {E : XK} {a b c e o : Expr} {body : List Stmt} {mt : MB} {m ma mb' : M} {mb : MS} {pos : Pos}
/-- while c: .., at most n turns -/
theorem s_while {n : Nat} (hp : PassesOwn (model X.prog X.w) X.A X.env X.xe) (hc : XT K X c mt) (hb : XSs K C E X body mb) : XS K C E X (.While c body [] pos) (mWhile mt mb n) := ps_imp (ps_while hp hc hb) fun Dn σ H ⟨H0, G, s, r, q⟩ => by
  generalize hR : mWhile mt mb n s = R at q
  refine ⟨fun m σ' H' => ∃ s', RS K H0 G σ' H' s' ∧ Tr σ s H σ' s' H' ∧ mWhile mt mb m s' = R, ⟨n, s, r, Tr.refl _ _ _, hR⟩, fun m σ' H' ⟨s', r', t', eo⟩ => ?_⟩
  cases m with
  | zero =>
    rw [← eo] at q
    exact q.elim
  | succ m =>
    unfold mWhile at eo
    cases ht : mt s' with
    | none =>
      rw [ht] at eo
      simp only at eo
      rw [← eo] at q
      exact q.elim
    | some b =>
      rw [ht] at eo
      simp only at eo
      refine ⟨H0, G, s', b, r', ht, fun H1 e1 => ?_⟩
      have tt : Tr σ s H σ' s' H1 := t'.trans (Tr.grow e1)
      cases b with
      | false =>
        rw [if_neg Bool.false_ne_true] at eo
        rw [← eo] at q
        exact q σ' H1 (r'.mono e1) tt
      | true =>
        rw [if_pos rfl] at eo
        show (if true = true then _ else _)
        rw [if_pos rfl]
        refine ⟨fun σ2 H2 => ∃ s2, RS K H0 G σ2 H2 s2 ∧ Tr σ s H σ2 s2 H2 ∧ mWhile mt mb m s2 = R, fun σ2 H2 ⟨s2, a1, a2, a3⟩ => ⟨m, Nat.lt_succ_self _, s2, a1, a2, a3⟩, H0, G, s', r'.mono e1, ?_⟩
        cases hb' : mb s' with
        | nx s2 =>
          simp only [hb'] at eo
          exact fun σ4 H4 r4 t4 => ⟨s2, r4, tt.trans t4, eo⟩
        | ct s2 =>
          simp only [hb'] at eo
          exact fun σ4 H4 r4 t4 => ⟨s2, r4, tt.trans t4, eo⟩
        | bk s2 =>
          simp only [hb'] at eo
          rw [← eo] at q
          exact fun σ4 H4 r4 t4 => q σ4 H4 r4 (tt.trans t4)
        | rt d =>
          simp only [hb'] at eo
          rw [← eo] at q
          exact q
        | rtl d =>
          simp only [hb'] at eo
          rw [← eo] at q
          exact q
        | ex c fs =>
          simp only [hb'] at eo
          rw [← eo] at q
          exact q
        | no =>
          simp only [hb'] at eo
          rw [← eo] at q
          exact q.elim
/-- x.clear(), x a list of the def's own -/
def mClr (i : Nat) : MS := fun s => match s[i]? with
  | some (some (.ow _)) => .nx (s.set i (some (.ow [])))
  | _ => .no
theorem s_clrN {i : Nat} {p1 p2 p3 : Pos} (hK : X.K = K) (hx : PE X o (tVar i)) (hb : attributeBase o "clear" X.env (eval o X.env) = eval o X.env := by rfl) (hl : (p1.endLine == p2.line) = true := by rfl)
    (hw : swapsWith (.Call (.Attribute o "clear" p1) [] [] p2) none p3.line X.env = pure false := by rfl) : XS K C E X (.Expr (.Call (.Attribute o "clear" p1) [] [] p2) p3) (mClr i) :=
  ps_imp (ps_expr (pos := p3) (pe_bm0 PySem.F.plainAttrs_list PySem.F.slot_list_clear PySem.F.type_list_clear mt_clear hx hb hl) hw) fun D σ H ⟨H0, G, s, r, q⟩ => by
    subst hK
    unfold mClr at q
    split at q
    · rename_i ds hi
      obtain ⟨a, xs, h1, h2, h3, h4, h5⟩ := r.owL i ds hi
      exact ⟨.ref a, h1, .inl ⟨rfl, xs, .inl (.inl h2)⟩, a, xs, rfl, rfl, h2, q σ _ (r.mutO hi h1 .nil) (Tr.mutO hi h1)⟩
    · exact q.elim
/-- x.insert(k, e), x a list of the def's own -/
def mIns (i : Nat) (mk m : M) : MS := fun s => match s[i]? with
  | some (some (.ow ds)) => (match (mk s).bind fun kd => (intOf kd).bind fun j => (m s).bind fun d => if 0 ≤ j ∧ j ≤ 1000000 ∧ ds.length < 100000 then some (j, d) else none with
    | some (j, d) => .nx (s.set i (some (.ow (ds.take j.toNat ++ [d] ++ ds.drop j.toNat))))
    | none => .no)
  | _ => .no
theorem s_insN {i : Nat} {mk : M} {k : Expr} {p1 p2 p3 : Pos} (hK : X.K = K) (hx : PE X o (tVar i)) (hk : XB K X k mk) (he : XE K X e m) (hs : starEach [k, e] X.env = (false, eval k X.env) :: starEach [e] X.env := by rfl) (hs2 : starEach [e] X.env = (false, eval e X.env) :: starEach [] X.env := by rfl)
    (hb : attributeBase o "insert" X.env (eval o X.env) = eval o X.env := by rfl)
    (hf : ((backTo p2 (starEach [k, e] X.env)).all (fun x => !x.1) && (backToKw p2 (keywordEach [] X.env)).all (fun x => x.1.isSome) && decide ([k, e].length + ([] : List Keyword).length + (if ([] : List Keyword).isEmpty then 0 else 1) < 30)) = true := by rfl)
    (hl : (p1.endLine == p2.line) = true := by rfl) (hp : (backTo p2 (starEach [e] X.env)).any (·.1) = false := by rfl)
    (hw : swapsWith (.Call (.Attribute o "insert" p1) [k, e] [] p2) none p3.line X.env = pure false := by rfl) :
    XS K C E X (.Expr (.Call (.Attribute o "insert" p1) [k, e] [] p2) p3) (mIns i mk m) :=
  ps_imp (ps_expr (pos := p3) (pe_bm PySem.F.plainAttrs_list PySem.F.slot_list_insert PySem.F.type_list_insert mt_insert hx (pa_cons hk (pa_cons he pa_nil hs2) hs) hb hf hl hs hp) hw) fun D σ H ⟨H0, G, s, r, q⟩ => by
    subst hK
    unfold mIns at q
    split at q
    · rename_i ds hi
      split at q
      · rename_i j d hm
        obtain ⟨kd, ek, hm⟩ := some_bind hm
        obtain ⟨j', ej, hm⟩ := some_bind hm
        obtain ⟨d', ed, hm⟩ := some_bind hm
        obtain ⟨⟨z1, z2, z3⟩, hm⟩ := if_some hm
        cases hm
        have := intOf_some ej
        subst this
        obtain ⟨a, xs, h1, h2, h3, h4, h5⟩ := r.owL i ds hi
        refine ⟨.ref a, h1, .inl ⟨rfl, xs, .inl (.inl h2)⟩, H0, G, s, _, r, ek, fun u H1 e1 ru => ⟨H0, G, s, _, r.mono e1, ed, fun v H2 e2 rv => ?_⟩⟩
        have eu : u = .int j := by
          have := RB.any r e1 ru
          cases this
          rfl
        subst eu
        have e12 := e1.trans e2
        have h5' := h5.ex e12
        refine ⟨a, xs, j, v, rfl, rfl, e12 _ _ h2, sz_lt (by rw [h5.length]; exact z3), z1, by omega, ?_⟩
        exact q σ _ ((r.mono e12).mutO hi h1 (((h5'.take j.toNat).append (.cons rv .nil)).append (h5'.drop j.toNat))) ((Tr.mutO hi h1).ex e12)
      · exact q.elim
    · exact q.elim
abbrev fShl := fInt CPow fun i j => .int (i * 2 ^ j.toNat)
theorem x_shl (ha : XB K X a ma) (hb : XB K X b mb') : XE K X (.BinOp a .LShift b pos) (m2 fShl ma mb') := x_op op_shl (os_int fun _ _ _ => .int _) ha hb
end
end DD

/-! # sorted(xs, key=lambda y: .., reverse=..), the lambda with captured names -/
namespace DD
open PySem PySem.Spec PyProof.Rows L2
/-- a lambda as a nested def -/
abbrev lamF (q : Str) (params : Arguments) (scope : Scope) (cl : List (Str × Addr)) (c' : Addr) : NdefX.NF := ⟨"<lambda>", q, params, [], scope, cl, c'⟩
/-- a lambda is called, its cells hold ws -/
theorem run_lamC {P : Program} {w : World} {K : PySem.W.Frag} {mg : Str → Option Value} {base : Heap} {k : Nat} {f : Addr} {F : NdefX.NF} {params : Arguments} {body : Expr} {pm ctv : Value} {N ps fr : List Str} {A : Around} {outer : List Env} {s : Shared} {H : Hp} {us : List Value} {vs : List V} {ws : List (Option V)} {Q : VK} {E : XK} {t : TE}
    (S : NdefX.NScope N ps fr F.scope) (hr : Room (k + 1) A) (e0 : Env0 P w K mg base A outer s H) (hf : s.heap.get? f = some (PySem.W.kla_obj "<lambda>" F.qual params body F.scope F.cl pm F.c ctv)) (hc : s.heap.CodeRec (.ref F.c) F.qual)
    (hb : BindsTo s (PySem.W.kla_fn "<lambda>" F.qual params body F.scope F.cl pm (.ref F.c) ctv) ⟨us, []⟩ (ps.zip us)) (C : NdefX.CellsAt F.cl fr ws s.heap H) (r : Vals vs us) (hl : vs.length = ps.length)
    (hbody : Room k (A.deeper (NdefX.envF F f s.heap.objs.size)) → PE (NdefX.ncx CX0 P w K mg base N F f A outer s H E) body t) (ht : t (NdefX.startF N vs ws) H Q) :
    codeAny (model P w) A (.call (.ref f) ⟨us, []⟩) (CR CX0 outer P w H s Q E) s := by
  have lim : s.heap.NoLimit := e0.mod.nolimit.keeps fun b o e => (e0.bs b o e).1
  refine PySem.W.kla_callFunE hr.depth hf rfl S.co S.gen rfl hc (hb _ _ _ _ ?_)
  refine wpAny_newFunctionEnv S.nocell (fun ⟨n, _⟩ hy => S.par n (List.of_mem_zip hy).1) (fun h₁ hns hsb => ⟨lim.fresh _ hsb, ?_⟩) S.kind
  have kp : ∀ b o, s.heap.get? b = some o → h₁.get? b = some o := fun b o e => hsb.extBut b o (Nat.ne_of_lt (Heap.lt_size e)) (Heap.get?_push_of_some _ e)
  have I : Inv (NdefX.ncx CX0 P w K mg base N F f A outer s H E) [] (NdefX.startF N vs ws) H { s with heap := h₁, toks := s.toks + (ps.zip us).length } := NdefX.inv_startN S hr.hd e0 hl r C hns kp
  refine PySem.W.kla_codeExpr (wpAny_mono ((hbody (hr.deeper _)).run [] _ (NdefX.startF N vs ws) H Q I ht) (fun u s' hq => ?_) fun e s' hq => hq)
  obtain ⟨v, H', J, rv, q⟩ := hq
  exact ⟨v, H', J.os, J.bare, J.base, J.hok, rv, q⟩
variable [LTb]
/-- what a call of the key gives -/
def KeyCallC (K : Fg) (t : TE) (N : List Str) (ws : List (Option V)) (H : Hp) (b : V × D × D) : Prop := ∀ H1, Ex H H1 → ∀ Q : VK, (∀ kv H2, Ex H1 H2 → FX K H2 kv b.2.2 → Q kv H2) → t (NdefX.startF N [b.1] ws) H1 Q
section
variable {X : Cx} {pins : List (Addr × Obj)} {σ : L2.St} {H : Hp} {s : Shared}
theorem sortkey_runC {l f c' : Addr} {params : Arguments} {body : Expr} {scope : Scope} {pm ctv : Value} {cl : List (Str × Addr)} {fr : List Str} {js : List Nat} {rev : Bool} {kw : List (Str × Value)} {k : Nat} {N : List Str} {y q : Str} {t : TE} {xs : List V} {bs : List (V × D × D)} {Q : VK} {E : Value → Shared → Prop}
    (cp : NdefX.Caps X cl fr js) (kw1 : ∀ l, argsOk "sorted" ⟨[.ref l], kw⟩) (kw2 : ∀ a, argsOk "list.sort" ⟨[.ref a], kw⟩) (kw3 : ∀ a : Addr, Builtin.«list.sort» ⟨[.ref a], kw⟩ = ksk_tree a (.ref f) rev)
    (I : Inv X pins σ H s) (hr : Room (k + 3) X.A) (hs : SqL X.K H l xs) (hx : bs.map (·.1) = xs) (hf : s.heap.get? f = some (PySem.W.kla_obj "<lambda>" q params body scope cl pm c' ctv)) (hfn : H f = none) (hfr : f ∉ frs X.stack) (hco : H c' = some (LamX.CodeO c' q))
    (S : NdefX.NScope N [y] fr scope) (hb : ∀ (s : Shared) (u : Value), BindsTo s (PySem.W.kla_fn "<lambda>" q params body scope cl pm (.ref c') ctv) ⟨[u], []⟩ [(y, u)])
    (hbody : ∀ (A : Around) (outer : List Env) (s : Shared) (H : Hp), Room k (A.deeper (NdefX.envF (lamF q params scope cl c') f s.heap.objs.size)) → PE (NdefX.ncx CX0 X.prog X.w X.K X.mg X.base N (lamF q params scope cl c') f A outer s H (fun _ _ _ => False)) body t)
    (turn : ∀ b ∈ bs, KeyCallC X.K t N (js.map (NdefX.slotAt σ)) H b) (hal : alikeAllB (bs.map (·.2.2)) = true) (hso : sortB (bs.map (·.2.2)) = true) (hdp : PyData.depthAll (bs.map (·.2.2)) ≤ 60) (hpl : plainD.go (bs.map (·.2.2)) = true)
    (fin : ∀ p H1, Ex H H1 → H p = none → H1 p = none → Q (.ref p) (upd H1 p (.lst ((bs.mergeSort (W.dataLe rev fun b => b.2.2)).map (·.1))))) :
    wpAny (model X.prog X.w) X.A (call (.builtin "sorted") [.ref l] kw) (EP X pins σ Q) E s := by
  obtain ⟨vs, rv, hl, hz⟩ := I.list hs
  have hlen : vs.length = bs.length := by rw [← rv.length, ← hx, List.length_map]
  refine W.sorted_of_sort hl.isList (by rw [← rv.length]; exact hz) (kw1 _) (fun _ => kw2 _) fun E' => ?_
  rw [kw3]
  have hzv : vs.length ≤ sizeLine := by rw [← rv.length]; exact hz
  generalize ha : s.heap.objs.size + 1 = a
  have ho : (W.copyHeap s.heap vs).get? a = some (seqObj "list" vs.toArray 0) := by rw [← ha]; exact W.copyHeap_at s.heap vs
  obtain ⟨e1, ho1⟩ : ∃ e1, ((W.copyHeap s.heap vs).update a (Obj.mapSeq fun _ => (#[] : Array Value))).get? a = some (seqObj "list" #[] e1) := ⟨_, get?_update_seq ho fun _ => #[]⟩
  have hag : s.heap.objs.size ≤ a := by rw [← ha]; exact Nat.le_succ _
  have old : ∀ b o, s.heap.get? b = some o → (W.sortingHeap (W.copyHeap s.heap vs) a vs).get? b = some o := fun b o e =>
    W.sortingHeap_old (fun w => by rw [w] at e; exact absurd (Nat.lt_of_lt_of_le (Heap.lt_size e) hag) (Nat.lt_irrefl _)) (W.copyHeap_old e)
  unfold ksk_tree
  refine wpAny_bind (listItems_at ho rfl ?_)
  refine wpAny_bind (listUpdate_at ho rfl ?_ (by rw [List.size_toArray]; exact hzv) (Nat.zero_le _))
  refine wpAny_bind (seqEpoch_at ho1 rfl ?_)
  refine wpAny_bind (wpAny_newTuple ?_ (by show vs.length ≤ _; exact hzv))
  refine wpAny_bind (wpAny_newList ?_ (Nat.zero_le _))
  refine wpAny_holding ?_
  generalize hk : (((W.copyHeap s.heap vs).update a (Obj.mapSeq fun _ => (#[] : Array Value))).push (seqObj "tuple" vs.toArray 0)).objs.size = kS
  have hka : a < kS := by
    rw [← hk, size_push', Heap.size_update]
    exact Nat.lt_succ_of_lt (Heap.lt_size ho)
  have hkg : s.heap.objs.size ≤ kS := Nat.le_trans hag (Nat.le_of_lt hka)
  have hag3 : (W.sortingHeap (W.copyHeap s.heap vs) a vs).get? a = some (seqObj "list" #[] e1) := Heap.get?_push_of_some _ (Heap.get?_push_of_some _ ho1)
  have hkg3 : (W.sortingHeap (W.copyHeap s.heap vs) a vs).get? kS = some (seqObj "list" #[] 0) := by
    rw [← hk]
    exact Heap.get?_push_size _ rfl
  generalize hg3 : W.sortingHeap (W.copyHeap s.heap vs) a vs = g3 at old hag3 hkg3
  have I3 : Inv X pins σ H { s with heap := g3 } := I.kept old
  have no : ∀ b, s.heap.objs.size ≤ b → b ∉ frs X.stack := fun b hb z => by
    rcases List.mem_cons.mp (I.stkSub _ z) with e | e
    · have h1 := I.lt
      rw [← e] at h1
      exact Nat.lt_irrefl _ (Nat.lt_of_lt_of_le h1 hb)
    · exact I.nofs hb e
  have T3 : KeyTurn X pins σ H f a kS e1 (PySem.W.kla_obj "<lambda>" q params body scope cl pm c' ctv) [] { s with heap := g3 } :=
    ⟨H, [], #[], 0, I3, Ex.refl H, hfn, I.hok.fresh hag, I.hok.fresh hkg, old _ _ hf, hag3, hkg3, .nil, .nil⟩
  show wpAny _ _ (ksk_rest a (.ref f) rev vs.toArray e1 (.ref kS)) _ _ ({ s with heap := W.sortingHeap (W.copyHeap s.heap vs) a vs } : Shared)
  rw [hg3]
  unfold ksk_rest
  refine wpAny_bind (wpAny_rule ?_)
  first
    | rw [List.forIn_toArray]
    | (rw [← Array.forIn_toList]; simp only [List.toList_toArray])
  have fp : ∀ {H'} b, s.heap.objs.size ≤ b → H' b = none → FpOk X pins H' b := fun b hb n => I.fpOk hb n
  refine wpAny_bind (ksk_fold (fun i s' => KeyTurn X pins σ H f a kS e1 (PySem.W.kla_obj "<lambda>" q params body scope cl pm c' ctv) ((bs.take i).map (·.2.2)) s') vs 0 _ T3 ?step ?done)
  case step =>
    rintro j x s' hxj ⟨H', ks, kA, e, I', ex, nf, na, nk, gf, ga, gk, vk, fk⟩
    rw [Nat.zero_add] at fk ⊢
    have hj : j < bs.length := by rw [← hlen]; exact (List.getElem?_eq_some_iff.mp hxj).1
    have hbj : bs[j]? = some bs[j] := List.getElem?_eq_getElem hj
    have rx : RelV bs[j].1 x := by
      have h2 : xs[j]? = some bs[j].1 := by rw [← hx, List.getElem?_map, hbj]; rfl
      exact vals_at rv h2 hxj
    have hc2 := (I'.hok c' _ (ex.at_ c' _ hco nt_ext)).1
    refine wpAny_bind (wpAny_attempt (wpAny_call (codeAny_mono (run_lamC (F := lamF q params scope cl c') (E := fun _ _ _ => False) (Q := fun kv H2 => Ex H' H2 ∧ FX X.K H2 kv bs[j].2.2) S (hr.mono (by omega) : Room (k + 1 + 1 + 1) X.A).in1.in1 I'.env0.in1.in1 gf ?_ (hb _ x) (NdefX.cells_of I' cp) (.cons rx .nil) rfl (fun hr' => hbody _ _ _ _ hr') (turn _ (List.getElem_mem hj) H' ex _ fun kv H2 e2 fx => ⟨e2, fx⟩)) fun r s2 hq => ?_)))
    · obtain ⟨oc, fs, tk, z1, z2, z3⟩ := hc2
      exact ⟨_, oc, fs, tk, rfl, z1, z2, z3⟩
    · cases r with
      | error er => exact (show False from hq).elim
      | ok fl =>
        cases fl with
        | next => exact False.elim hq
        | brk => exact False.elim hq
        | cont => exact False.elim hq
        | ret u =>
          obtain ⟨kv, H2, hos, hbare, un, hok, rk, ex2, fx⟩ := hq
          have I2 : Inv X pins σ H2 s2 := I'.call' (ch := []) hos un hok hbare (fun b hb => nomatch hb)
          have gf2 := un.keep f _ gf nf hfr (fun z => nomatch z)
          have ga2 := un.keep a _ ga na (no a hag) (fun z => nomatch z)
          have gk2 := un.keep kS _ gk nk (no kS hkg) (fun z => nomatch z)
          have nf2 := un.free f _ gf nf (fun z => nomatch z)
          have na2 := un.free a _ ga na (fun z => nomatch z)
          have nk2 := un.free kS _ gk nk (fun z => nomatch z)
          have hzk : kA.size ≤ vs.length := by
            have z1 := fk.len
            have z2 := vk.length
            rw [List.length_map, List.length_take] at z1
            have z3 : kA.toList.length = kA.size := Array.length_toList
            omega
          show wpAny _ _ _ _ _ s2
          have sb := Heap.SameBut.update s2.heap kS (Obj.mapSeq (·.push u))
          obtain ⟨c2, hc2'⟩ : ∃ c2, (s2.heap.update kS (Obj.mapSeq (·.push u))).get? kS = some (seqObj "list" (kA.push u) c2) := ⟨_, get?_update_seq gk2 (·.push u)⟩
          refine wpAny_bind (listUpdate_at gk2 rfl ?_ (Nat.le_trans hzk hzv) (Nat.le_trans (Nat.le_of_eq (Array.size_push ..)) (Nat.succ_le_succ (Nat.le_trans hzk hzv))))
          obtain ⟨z0, z1, z2, z3, z4, z5⟩ := fp kS hkg nk2
          have I4 : Inv X pins σ H2 { s2 with heap := s2.heap.update kS (Obj.mapSeq (·.push u)), toks := s2.toks } := I2.turned (t' := s2.toks) (fun b o hb e => (sb.2 b hb).trans e) z0 z1 z3 z4 z5
          refine wpAny_pure ⟨rfl, H2, ks ++ [kv], kA.push u, c2, I4, ex.trans ex2, nf2, na2, nk2, ?_, ?_, hc2', ?_, ?_⟩
          · exact (sb.2 f (fun w => by rw [w, gk2] at gf2; have z := congrArg Obj.data (Option.some.inj gf2); cases z)).trans gf2
          · exact (sb.2 a (Nat.ne_of_lt hka)).trans ga2
          · rw [Array.toList_push]
            exact vk.append (.cons rk .nil)
          · rw [List.take_add_one, hbj]
            simp only [Option.toList_some, List.map_append, List.map_cons, List.map_nil]
            exact (fk.ex ex2).snoc fx
  case done =>
    rintro s' ⟨H', ks, kA, e, I', ex, nf, na, nk, gf, ga, gk, vk, fk⟩
    rw [Nat.zero_add, List.take_of_length_le (by omega)] at fk
    have hsz : kA.size = vs.length := by
      have z1 := fk.len
      have z2 := vk.length
      rw [List.length_map] at z1
      have z3 : kA.toList.length = kA.size := Array.length_toList
      omega
    show wpAny _ _ _ _ _ s'
    refine wpAny_bind (listItems_at gk rfl ?_)
    have hrd := keys_read I' fk hpl vk
    have kd : ∀ d, d ∈ bs.map (·.2.2) → X.A.in1.in1.units + d.depth < cLine := fun d hd => by
      have h1 := depth_le hd
      have h2 := hr.un
      show X.A.units + 2 + d.depth < cLine
      omega
    have hgk : (s'.heap.update kS fun _ => { cls := .none, data := .freed }).get? kS = none := gone (Heap.lt_size gk)
    have hup : ∀ b o, b ≠ kS → s'.heap.get? b = some o → (s'.heap.update kS fun _ => { cls := .none, data := .freed }).get? b = some o := fun b o hb e => (Heap.get?_update_ne _ _ _ _ hb).trans e
    have hdn : W.KeepsBut a (s'.heap.update kS fun _ => { cls := .none, data := .freed }) s'.heap := fun b o hb e => by
      by_cases w : b = kS
      · rw [w, hgk] at e; cases e
      · rw [Heap.get?_update_ne _ _ _ _ w] at e; exact e
    refine W.keyH_end (κ := W.dataKind s'.heap (bs.map (·.2.2))) (h₁ := s'.heap.update kS fun _ => { cls := .none, data := .freed }) hdn hgk gk ga (Nat.ne_of_gt hka) (W.SortsAt.data hrd (by simpa using alikeAllB_of hal) ?_ kd) hsz hzv fun h2 tk c kb g2 => ?_
    · have := sortB_of hso
      simpa using this
    have ko : W.KeyedOut rev (bs.map (·.2.2)) vs (W.sortVals (W.dataKind s'.heap (bs.map (·.2.2))) rev kA.toList vs) := ⟨s'.heap, kA.toList, by simpa using alikeAllB_of hal, rfl, hrd⟩
    have eo := W.keyedOut_each (R := fun v (b : V × D × D) => RelV b.1 v) (fun b => b.2.2) ko (each_triples (f := fun b : V × D × D => b.1) (fun _ _ h => h) (by rw [hx]; exact rv))
    have rvo := triples_each (f := fun b : V × D × D => b.1) eo
    generalize hout : W.sortVals (W.dataKind s'.heap (bs.map (·.2.2))) rev kA.toList vs = out at g2 ko eo rvo
    have hol : out.length = vs.length := ko.length (by rw [List.length_map]; omega)
    refine ⟨rfl, .ref a, upd H' a (.lst ((bs.mergeSort (W.dataLe rev fun b => b.2.2)).map (·.1))), ?_, rfl, fin a H' ex (I.hok.fresh hag) na⟩
    refine take2 (c := kS) I' (fun b ob hb hc e => kb b ob hb (hup b ob hc e)) (fp a hag na) (fp kS hkg nk) ?_
    · refine ⟨?_, out, c, rvo, g2⟩
      rw [rvo.length, hol]
      exact hzv
end
end DD

/-! # sorted(xs, key=lambda y: .., reverse=..) over data -/
namespace DD
open PySem PySem.Spec PyProof.Rows L2
variable [LTb]
section
variable {X : Cx} {pins : List (Addr × Obj)} {σ : L2.St} {H : Hp} {s : Shared}
/-- a lambda is made -/
theorem lam_newC {c P : Addr} {params : Arguments} {body : Expr} {scope : Scope} {pos : Pos} {E : Value → Shared → Prop} {Q : Value → Shared → Prop} (I : Inv X pins σ H s) (TB : LamX.TabB X.base X.mg c P) (hcode : X.env.code = .ref c)
    (t0 : (P, X.env.qual ++ "<lambda>") ∈ LTb.T) (t1 : ∀ p ∈ LTb.T, p.1 = P → p.2 = X.env.qual ++ "<lambda>") (tk : TabOk H) (hdef : defaultsOf params X.env = ([], [])) (hfree : ∀ y ∈ scope.names, y.2 = .free → X.env.scope.names.lookup y.1 = some .cell ∨ X.env.scope.names.lookup y.1 = some .free)
    (h : ∀ (f c' : Addr) (pm ctv : Value) (H1 : Hp) (s' : Shared), Inv X pins σ H1 s' → Ex H H1 → s'.heap.get? f = some (PySem.W.kla_obj "<lambda>" (X.env.qual ++ "<lambda>") params body scope (cloFrom X.env.cells scope.names []) pm c' ctv) → H1 f = none → f ∉ frs X.stack → H1 c' = some (LamX.CodeO c' (X.env.qual ++ "<lambda>")) → Q (.ref f) s') :
    wpAny (model X.prog X.w) X.A (eval (.Lambda params body scope pos) X.env) Q E s := by
  have hP0 := tk.1 _ t0
  obtain ⟨ps, hP, ht, ha⟩ := hP0
  refine PySem.W.kla_eval hdef ?_
  have cl : closureFor scope X.env = pure (cloFrom X.env.cells scope.names []) := closure_ok fun y hy e => (hfree y hy e).elim (fun z => I.ok.has _ (.inl z)) fun z => I.ok.has _ (.inr z)
  have gP : s.heap.get? P = some { cls := .none, data := .fields ps } := I.hok P _ hP
  have bP : s.heap.BuiltinsAt X.mg P := TB.bm.keeps I.bk
  have far : ∀ f, s.heap.objs.size ≤ f → f ∉ frs X.stack := fun f hf z => by
    rcases List.mem_cons.mp (I.stkSub _ z) with e | e
    · exact Nat.lt_irrefl _ (Nat.lt_of_lt_of_le (e ▸ I.lt) hf)
    · exact I.nofs hf e
  cases hc : codeAmong pos ps.toList with
  | some cv =>
    obtain ⟨c', rfl, hco⟩ := ha pos cv hc
    refine PySem.W.kla_makeFunctionHit (mg := X.mg) (c := c) (P := P) (ps := ps) cl I.ok.glob (I.mod.glob.keeps I.bk) hcode (TB.code.keeps I.bk) gP ht hc bP fun ctv h' tk' hx hsz => ?_
    exact h _ c' _ ctv H _ (I.kept fun b o e => Heap.get?_push_of_some _ (hx b o e)) (Ex.refl H) (Heap.get?_push_size _ rfl) (I.hok.fresh hsz) (far _ hsz) hco
  | none =>
    refine PySem.W.kla_makeFunction (mg := X.mg) (c := c) (P := P) (ps := ps) cl I.ok.glob (I.mod.glob.keeps I.bk) hcode (TB.code.keeps I.bk) gP ht hc TB.gP bP fun c' ctv h' tk' hx hge hlt hrec htb => ?_
    obtain ⟨c2, oc, vs, t, e2, hoc, hd, hv⟩ := hrec
    cases e2
    have nC : H c' = none := I.hok.fresh hge
    have hsz : s.heap.objs.size ≤ h'.objs.size := Nat.le_trans hge (Nat.le_of_lt hlt)
    have I1 := LamX.inv_table (t' := tk') (more := #[rawInt pos.line, rawInt pos.col, .ref c']) (h' := h'.push (PySem.W.kla_obj "<lambda>" (X.env.qual ++ "<lambda>") params body scope (cloFrom X.env.cells scope.names []) ((X.mg "__name__").getD .none) c' ctv)) I hP
      (fun b o hb e => Heap.get?_push_of_some _ (hx b o hb e)) (Heap.get?_push_of_some _ htb) hge ⟨oc, vs, t, Heap.get?_push_of_some _ hoc, hd, hv⟩
    have eL : (ps ++ #[rawInt pos.line, rawInt pos.col, .ref c']).toList = ps.toList ++ [rawInt pos.line, rawInt pos.col, .ref c'] := by simp
    have tT : TriplesOk (ps ++ #[rawInt pos.line, rawInt pos.col, .ref c']).toList := by rw [eL]; exact PySem.TriplesOk_snoc _ _ _ _ ht
    refine h h'.objs.size c' _ ctv _ _ I1 (Ex.table hP nC t1 (fun z => ?_) tT) (Heap.get?_push_size _ rfl) ?_ (far _ hsz) upd_same
    · refine ⟨_, by rw [upd_ne (ne_of_none hP nC), upd_same], tT, fun p' cv hcv => ?_⟩
      rw [eL] at hcv
      rcases LamX.among_app _ ht hcv with z | z
      · obtain ⟨c0, e1, e2⟩ := ha p' cv z
        refine ⟨c0, e1, ?_⟩
        rw [upd_ne (ne_of_none e2 nC), upd_ne (fun w => by rw [w, hP] at e2; exact LamX.codeO_ne _ (Option.some.inj e2).symm)]
        exact e2
      · exact ⟨c', z, upd_same⟩
    · rw [upd_ne (Nat.ne_of_gt hlt), upd_ne (Nat.ne_of_gt (Nat.lt_of_lt_of_le (Heap.lt_size gP) hsz))]
      exact I.hok.fresh hsz
end
/-! ### the rule over data -/
/-- what the captured slots hold -/
def capt (s : DD.S) : List Nat → Option (List D)
  | [] => some []
  | j :: js => (mVarB j s).bind fun d => (capt s js).map (d :: ·)
def keysCp (n : Nat) (cs : List D) (me : M) : List D → Option (List D)
  | [] => some []
  | d :: ds => (me (startS n (d :: cs))).bind fun k => (keysCp n cs me ds).map (k :: ·)
def sortByR (rev : Bool) (ds ks : List D) : List D := ((ds.zip ks).mergeSort (W.dataLe rev fun b => b.2)).map (·.1)
def mSortC (rev : Bool) (n : Nat) (js : List Nat) (me : M) (m : M) : ML := fun s => (m s).bind fun d => (fList d).bind fun ds => (capt s js).bind fun cs => (keysCp n cs me ds).bind fun ks => if alikeAllB ks = true ∧ sortB ks = true ∧ PyData.depthAll ks ≤ 60 ∧ flatD.go ks = true then some (sortByR rev ds ks) else none
theorem keysCp_len {n : Nat} {cs : List D} {me : M} : ∀ {ds ks : List D}, keysCp n cs me ds = some ks → ks.length = ds.length
  | [], _, h => by cases h; rfl
  | d :: ds, ks, h => by
    obtain ⟨k, _, h⟩ := some_bind h
    obtain ⟨r, hr, rfl⟩ := opt_map h
    simp [keysCp_len hr]
theorem keysCp_at {n : Nat} {cs : List D} {me : M} : ∀ {ds ks : List D} {j : Nat} {d k : D}, keysCp n cs me ds = some ks → ds[j]? = some d → ks[j]? = some k → me (startS n (d :: cs)) = some k
  | [], _, j, _, _, h, e, _ => by simp at e
  | d :: ds, ks, j, d', k', h, e, e2 => by
    obtain ⟨k, hk, h⟩ := some_bind h
    obtain ⟨r, hr, rfl⟩ := opt_map h
    cases j with
    | zero => simp at e e2; subst e e2; exact hk
    | succ j => exact keysCp_at hr (by simpa using e) (by simpa using e2)
theorem capt_ok {K : Fg} {H0 H : Hp} {G : Addr → Prop} {σ : L2.St} {s : DD.S} (r : RS K H0 G σ H s) : ∀ {js : List Nat} {cs : List D}, capt s js = some cs → ∃ ws : List V, js.map (NdefX.slotAt σ) = ws.map some ∧ RA K (fun _ => True) H ws cs
  | [], cs, h => by cases h; exact ⟨[], rfl, .nil⟩
  | j :: js, cs, h => by
    obtain ⟨d, hd, h⟩ := some_bind h
    obtain ⟨ds, hds, rfl⟩ := opt_map h
    obtain ⟨ws, h1, h2⟩ := capt_ok r hds
    obtain ⟨v, hv, rv⟩ : ∃ v, σ[j]? = some (some v) ∧ R K (fun _ => True) H v d := by
      unfold mVarB at hd
      split at hd
      · rename_i d' hs
        cases hd
        obtain ⟨v, h3, h4⟩ := r.sh j _ hs
        exact ⟨v, h3, h4.wider fun _ _ => trivial⟩
      · rename_i c hs
        cases hd
        obtain ⟨a, u, h3, h4, _, _, h5⟩ := r.ow j _ hs
        cases h5 with
        | lst h5 => exact ⟨.ref a, h3, .lst (.inl ⟨trivial, .inl h4⟩) (h5.wider fun _ _ => trivial)⟩
        | dic h5 => exact ⟨.ref a, h3, .dic trivial (.inl h4) h5⟩
      · cases hd
    exact ⟨v :: ws, by rw [List.map_cons, List.map_cons, h1, NdefX.slotAt_of hv], .cons rv h2⟩
section
variable {K : Fg} {X : Cx} {e body : Expr} {m me : M} {params : Arguments} {scope : Scope} {p pos lpos kpos : Pos} {c P : Addr} {k k' : Nat} {N : List Str} {y : Str}
theorem l_sortC {fr : List Str} {js : List Nat} (hK : X.K = K) (hr : Room k' X.A) (hkk : k + 3 ≤ k') (hg : Gl X "sorted") (hm : X.mg "sorted" = none) (ha : XB K X e m) (TB : LamX.TabB X.base X.mg c P) (hcode : X.env.code = .ref c) (t0 : (P, X.env.qual ++ "<lambda>") ∈ LTb.T) (t1 : ∀ p ∈ LTb.T, p.1 = P → p.2 = X.env.qual ++ "<lambda>")
    (hdef : defaultsOf params X.env = ([], [])) (S : NdefX.NScope N [y] fr scope) (hn : NdefX.ndefB X.env.scope scope fr = true) (hjs : js.map (fun j => X.N[j]?) = fr.map some) (hb : ∀ (f c' : Addr) (pm ctv : Value) (s : Shared) (u : Value), BindsTo s (PySem.W.kla_fn "<lambda>" (X.env.qual ++ "<lambda>") params body scope (cloFrom X.env.cells scope.names []) pm (.ref c') ctv) ⟨[u], []⟩ [(y, u)])
    (hbody : ∀ (f c' : Addr) (A : Around) (outer : List Env) (s : Shared) (H : Hp), Room k (A.deeper (NdefX.envF (lamF (X.env.qual ++ "<lambda>") params scope (cloFrom X.env.cells scope.names []) c') f s.heap.objs.size)) → XE K (NdefX.ncx CX0 X.prog X.w X.K X.mg X.base N (lamF (X.env.qual ++ "<lambda>") params scope (cloFrom X.env.cells scope.names []) c') f A outer s H (fun _ _ _ => False)) body me)
    (he0 : starEach [e] X.env = (false, eval e X.env) :: starEach [] X.env := by rfl) (he : backTo pos (starEach [e] X.env) = (false, eval e X.env) :: backTo pos (starEach [] X.env) := by rfl) (hpl : (backTo pos (starEach [e] X.env)).any (·.1) = false := by rfl)
    (hall : (backToKw pos (keywordEach [⟨some "key", .Lambda params body scope lpos, kpos⟩] X.env)).all (·.1.isSome) = true := by rfl) (hnone : (backToKw pos (keywordEach [⟨some "key", .Lambda params body scope lpos, kpos⟩] X.env)).any (·.1.isNone) = false := by rfl) :
    XL K X (.Call (.Name "sorted" p) [e] [⟨some "key", .Lambda params body scope lpos, kpos⟩] pos) (mSortC false N.length js me m) := by
  subst hK
  refine ⟨fun pins s σ H Q I ⟨H0, G, sd, es, r, e0, q⟩ => ?_⟩
  obtain ⟨d, ed, e0⟩ := some_bind e0
  obtain ⟨ds, ef, e0⟩ := some_bind e0
  obtain ⟨cs, ec, e0⟩ := some_bind e0
  obtain ⟨ks, ek, e0⟩ := some_bind e0
  obtain ⟨⟨h1, h2, h3, h4⟩, e0⟩ := if_some e0
  cases e0
  have := fList_some ef
  subst this
  refine wpAny_Call_Name_kw (ld_blt (u := .builtin "sorted") I hg hm (by decide +kernel) ?_ (by decide))
  refine PyProof.Rows.callWith_kw (thn ((pa_cons ha pa_nil he0).run pos pins s σ H (fun vs H1 => ∃ v, vs = [v] ∧ Ex H H1 ∧ RB X.K G σ sd H1 v (.list ds)) I ⟨H0, G, sd, _, r, ed, fun v H1 e1 rv => ⟨v, rfl, e1, rv⟩⟩) fun us s1 hu => ?_) he hpl hall hnone
  obtain ⟨vs, H1, I1, r1, v, rfl, e1, rv⟩ := hu
  obtain ⟨pl, xs, rfl, hr', ra⟩ := RB.items r e1 rv
  rw [Vals.ref1 r1]
  have rs1 := r.mono e1
  show wpAny _ _ (evalAll ((do let v ← eval (.Lambda params body scope lpos) X.env; standAt pos; pure v) :: [])) _ _ s1
  refine wpAny_evalAll_cons (wpAny_bind (lam_newC I1 TB hcode t0 t1 rs1.tb hdef (NdefX.ndef_free hn) fun f c' pm ctv H2 s2 I2 e2 gf nf ff hc => wpAny_bind (wpAny_standAt (wpAny_pure (wpAny_evalAll_nil ?_)))))
  have rs2 := rs1.mono e2
  have hz := keysCp_len ek
  have lx := ra.length
  have zl : ∀ x ∈ xs.zip (ds.zip ks), R X.K (Cl G σ sd) H1 x.1 x.2.1 ∧ me (startS N.length (x.2.1 :: cs)) = some x.2.2 ∧ x.2.2 ∈ ks := fun x hx => by
    obtain ⟨j, hj⟩ := List.getElem?_of_mem hx
    rw [List.getElem?_zip_eq_some] at hj
    obtain ⟨z1, z2⟩ := hj
    rw [List.getElem?_zip_eq_some] at z2
    obtain ⟨d', hd', rd'⟩ := ra.getV z1
    rw [z2.1] at hd'
    cases hd'
    exact ⟨rd', keysCp_at ek z2.1 z2.2, List.mem_of_getElem? z2.2⟩
  have m1 : (xs.zip (ds.zip ks)).map (·.1) = xs := List.map_fst_zip (by rw [List.length_zip]; omega)
  have m2 : (xs.zip (ds.zip ks)).map (·.2) = ds.zip ks := List.map_snd_zip (by rw [List.length_zip]; omega)
  have m3 : (xs.zip (ds.zip ks)).map (fun b => b.2.2) = ks := by
    have : (fun b : V × D × D => b.2.2) = (fun b : D × D => b.2) ∘ (·.2) := rfl
    rw [this, ← List.map_map, m2]
    exact List.map_snd_zip (by omega)
  refine sortkey_runC (Q := Q) (l := pl) (bs := xs.zip (ds.zip ks)) (kw := [(Str.ofString "key", .ref f)]) (rev := false) (NdefX.Caps.made I2.ok (NdefX.ndef_free hn) (NdefX.ndef_fr hn) hjs) (fun _ => ksk_s1 _ _) (fun _ => ksk_l1 _ _) (fun _ => ksk_t1 _ _) I2 (hr.mono hkk) (e2.sql hr') m1 gf nf ff hc S (fun s u => hb f c' pm ctv s u) (fun A outer s H hr' => hbody f c' A outer s H hr') (fun b hbm => ?_) (by rw [m3]; exact h1) (by rw [m3]; exact h2) (by rw [m3]; exact h3) (by rw [m3]; exact flat_plain.go ks h4) fun pp H3 e3 np np3 => ?_
  · intro H3 e3 Q' hq
    obtain ⟨z1, z2, z3⟩ := zl b hbm
    have rb := ((z1.ex (e2.trans e3)).wider (B' := fun _ => True) fun _ _ => trivial)
    obtain ⟨ws, w1, w2⟩ := capt_ok r ec
    have rc := w2.ex (e1.trans (e2.trans e3))
    have wl : ws.length = fr.length := by
      have q1 := congrArg List.length w1
      have q2 := congrArg List.length hjs
      rw [List.length_map, List.length_map] at q1 q2
      omega
    have hpre : 1 + fr.length ≤ N.length := by
      have h5 := congrArg List.length S.pre
      rw [List.length_take, List.length_append] at h5
      simp at h5
      omega
    have est : NdefX.startF N [b.1] (js.map (NdefX.slotAt σ)) = L2.start N (b.1 :: ws) := by
      rw [w1]
      unfold NdefX.startF L2.start
      simp [Nat.sub_sub, Nat.add_comm]
    rw [est]
    have cl2 := w2.length
    refine ⟨H3, _, startS N.length (b.2.1 :: cs), b.2.2, rs_start (.cons rb rc) (e3.tb rs2.tb) (by rw [List.length_cons]; omega), z2, fun kv H4 e4 rk => hq kv H4 e4 (R.fx _ _ (flat_mem h4 z3) rk)⟩
  · have e13 := e2.trans e3
    have srt : (xs.zip (ds.zip ks)).mergeSort (W.dataLe false fun b => b.2.2) = (xs.zip (ds.zip ks)).mergeSort fun a b => W.dataLe false (fun b : D × D => b.2) a.2 b.2 := rfl
    have em : ((xs.zip (ds.zip ks)).mergeSort (W.dataLe false fun b => b.2.2)).map (·.2) = (ds.zip ks).mergeSort (W.dataLe false fun b => b.2) := by
      have z : ((xs.zip (ds.zip ks)).mergeSort (W.dataLe false fun b => b.2.2)).map (·.2) = ((xs.zip (ds.zip ks)).map (·.2)).mergeSort (W.dataLe false fun b => b.2) :=
        List.map_mergeSort (f := fun x : V × D × D => x.2) fun a _ b _ => rfl
      rw [z, m2]
    refine q pp _ _ (e1.back (e2.back np)) ((e1.trans e13).trans (Ex.new np3)) upd_same ?_
    have hall' : ∀ x ∈ ((xs.zip (ds.zip ks)).mergeSort (W.dataLe false fun b => b.2.2)).map (fun b => (b.1, b.2.1)), R X.K (Cl G σ sd) H3 x.1 x.2 := fun x hx => by
      obtain ⟨b, hb', rfl⟩ := List.mem_map.mp hx
      exact (zl b ((List.mergeSort_perm _ _).mem_iff.mp hb')).1.ex e13
    have rr := RA.pairs hall'
    rw [List.map_map, List.map_map] at rr
    have l2 : ((xs.zip (ds.zip ks)).mergeSort (W.dataLe false fun b => b.2.2)).map ((fun x : V × D => x.2) ∘ fun b : V × D × D => (b.1, b.2.1)) = sortByR false ds ks := by
      unfold sortByR
      rw [← em, List.map_map]
      rfl
    rw [l2] at rr
    exact (rr.free np3).ex (Ex.new np3)
theorem l_sortCR {fr : List Str} {js : List Nat} {rk : Nat} {rp kpos2 : Pos} (hK : X.K = K) (hr : Room k' X.A) (hkk : k + 3 ≤ k') (hg : Gl X "sorted") (hm : X.mg "sorted" = none) (ha : XB K X e m) (TB : LamX.TabB X.base X.mg c P) (hcode : X.env.code = .ref c) (t0 : (P, X.env.qual ++ "<lambda>") ∈ LTb.T) (t1 : ∀ p ∈ LTb.T, p.1 = P → p.2 = X.env.qual ++ "<lambda>")
    (hdef : defaultsOf params X.env = ([], [])) (S : NdefX.NScope N [y] fr scope) (hn : NdefX.ndefB X.env.scope scope fr = true) (hjs : js.map (fun j => X.N[j]?) = fr.map some) (hb : ∀ (f c' : Addr) (pm ctv : Value) (s : Shared) (u : Value), BindsTo s (PySem.W.kla_fn "<lambda>" (X.env.qual ++ "<lambda>") params body scope (cloFrom X.env.cells scope.names []) pm (.ref c') ctv) ⟨[u], []⟩ [(y, u)])
    (hbody : ∀ (f c' : Addr) (A : Around) (outer : List Env) (s : Shared) (H : Hp), Room k (A.deeper (NdefX.envF (lamF (X.env.qual ++ "<lambda>") params scope (cloFrom X.env.cells scope.names []) c') f s.heap.objs.size)) → XE K (NdefX.ncx CX0 X.prog X.w X.K X.mg X.base N (lamF (X.env.qual ++ "<lambda>") params scope (cloFrom X.env.cells scope.names []) c') f A outer s H (fun _ _ _ => False)) body me)
    (he0 : starEach [e] X.env = (false, eval e X.env) :: starEach [] X.env := by rfl) (he : backTo pos (starEach [e] X.env) = (false, eval e X.env) :: backTo pos (starEach [] X.env) := by rfl) (hpl : (backTo pos (starEach [e] X.env)).any (·.1) = false := by rfl)
    (hall : (backToKw pos (keywordEach [⟨some "key", .Lambda params body scope lpos, kpos⟩, ⟨some "reverse", .Constant (.bool true) rk rp, kpos2⟩] X.env)).all (·.1.isSome) = true := by rfl) (hnone : (backToKw pos (keywordEach [⟨some "key", .Lambda params body scope lpos, kpos⟩, ⟨some "reverse", .Constant (.bool true) rk rp, kpos2⟩] X.env)).any (·.1.isNone) = false := by rfl) :
    XL K X (.Call (.Name "sorted" p) [e] [⟨some "key", .Lambda params body scope lpos, kpos⟩, ⟨some "reverse", .Constant (.bool true) rk rp, kpos2⟩] pos) (mSortC true N.length js me m) := by
  subst hK
  refine ⟨fun pins s σ H Q I ⟨H0, G, sd, es, r, e0, q⟩ => ?_⟩
  obtain ⟨d, ed, e0⟩ := some_bind e0
  obtain ⟨ds, ef, e0⟩ := some_bind e0
  obtain ⟨cs, ec, e0⟩ := some_bind e0
  obtain ⟨ks, ek, e0⟩ := some_bind e0
  obtain ⟨⟨h1, h2, h3, h4⟩, e0⟩ := if_some e0
  cases e0
  have := fList_some ef
  subst this
  refine wpAny_Call_Name_kw (ld_blt (u := .builtin "sorted") I hg hm (by decide +kernel) ?_ (by decide))
  refine PyProof.Rows.callWith_kw (thn ((pa_cons ha pa_nil he0).run pos pins s σ H (fun vs H1 => ∃ v, vs = [v] ∧ Ex H H1 ∧ RB X.K G σ sd H1 v (.list ds)) I ⟨H0, G, sd, _, r, ed, fun v H1 e1 rv => ⟨v, rfl, e1, rv⟩⟩) fun us s1 hu => ?_) he hpl hall hnone
  obtain ⟨vs, H1, I1, r1, v, rfl, e1, rv⟩ := hu
  obtain ⟨pl, xs, rfl, hr', ra⟩ := RB.items r e1 rv
  rw [Vals.ref1 r1]
  have rs1 := r.mono e1
  show wpAny _ _ (evalAll ((do let v ← eval (.Lambda params body scope lpos) X.env; standAt pos; pure v) :: (do let v ← eval (.Constant (.bool true) rk rp) X.env; standAt pos; pure v) :: [])) _ _ s1
  refine wpAny_evalAll_cons (wpAny_bind (lam_newC I1 TB hcode t0 t1 rs1.tb hdef (NdefX.ndef_free hn) fun f c' pm ctv H2 s2 I2 e2 gf nf ff hc => wpAny_bind (wpAny_standAt (wpAny_pure (wpAny_evalAll_cons (wpAny_bind (Constant_bool (wpAny_bind (wpAny_standAt (wpAny_pure (wpAny_evalAll_nil ?_)))))))))))
  have rs2 := rs1.mono e2
  have hz := keysCp_len ek
  have lx := ra.length
  have zl : ∀ x ∈ xs.zip (ds.zip ks), R X.K (Cl G σ sd) H1 x.1 x.2.1 ∧ me (startS N.length (x.2.1 :: cs)) = some x.2.2 ∧ x.2.2 ∈ ks := fun x hx => by
    obtain ⟨j, hj⟩ := List.getElem?_of_mem hx
    rw [List.getElem?_zip_eq_some] at hj
    obtain ⟨z1, z2⟩ := hj
    rw [List.getElem?_zip_eq_some] at z2
    obtain ⟨d', hd', rd'⟩ := ra.getV z1
    rw [z2.1] at hd'
    cases hd'
    exact ⟨rd', keysCp_at ek z2.1 z2.2, List.mem_of_getElem? z2.2⟩
  have m1 : (xs.zip (ds.zip ks)).map (·.1) = xs := List.map_fst_zip (by rw [List.length_zip]; omega)
  have m2 : (xs.zip (ds.zip ks)).map (·.2) = ds.zip ks := List.map_snd_zip (by rw [List.length_zip]; omega)
  have m3 : (xs.zip (ds.zip ks)).map (fun b => b.2.2) = ks := by
    have : (fun b : V × D × D => b.2.2) = (fun b : D × D => b.2) ∘ (·.2) := rfl
    rw [this, ← List.map_map, m2]
    exact List.map_snd_zip (by omega)
  refine sortkey_runC (Q := Q) (l := pl) (bs := xs.zip (ds.zip ks)) (kw := [(Str.ofString "key", .ref f), (Str.ofString "reverse", .bool true)]) (rev := true) (NdefX.Caps.made I2.ok (NdefX.ndef_free hn) (NdefX.ndef_fr hn) hjs) (fun _ => ksk_s2 _ _ _) (fun _ => ksk_l2 _ _ _) (fun _ => ksk_t2 _ _ _) I2 (hr.mono hkk) (e2.sql hr') m1 gf nf ff hc S (fun s u => hb f c' pm ctv s u) (fun A outer s H hr' => hbody f c' A outer s H hr') (fun b hbm => ?_) (by rw [m3]; exact h1) (by rw [m3]; exact h2) (by rw [m3]; exact h3) (by rw [m3]; exact flat_plain.go ks h4) fun pp H3 e3 np np3 => ?_
  · intro H3 e3 Q' hq
    obtain ⟨z1, z2, z3⟩ := zl b hbm
    have rb := ((z1.ex (e2.trans e3)).wider (B' := fun _ => True) fun _ _ => trivial)
    obtain ⟨ws, w1, w2⟩ := capt_ok r ec
    have rc := w2.ex (e1.trans (e2.trans e3))
    have wl : ws.length = fr.length := by
      have q1 := congrArg List.length w1
      have q2 := congrArg List.length hjs
      rw [List.length_map, List.length_map] at q1 q2
      omega
    have hpre : 1 + fr.length ≤ N.length := by
      have h5 := congrArg List.length S.pre
      rw [List.length_take, List.length_append] at h5
      simp at h5
      omega
    have est : NdefX.startF N [b.1] (js.map (NdefX.slotAt σ)) = L2.start N (b.1 :: ws) := by
      rw [w1]
      unfold NdefX.startF L2.start
      simp [Nat.sub_sub, Nat.add_comm]
    rw [est]
    have cl2 := w2.length
    refine ⟨H3, _, startS N.length (b.2.1 :: cs), b.2.2, rs_start (.cons rb rc) (e3.tb rs2.tb) (by rw [List.length_cons]; omega), z2, fun kv H4 e4 rk => hq kv H4 e4 (R.fx _ _ (flat_mem h4 z3) rk)⟩
  · have e13 := e2.trans e3
    have srt : (xs.zip (ds.zip ks)).mergeSort (W.dataLe true fun b => b.2.2) = (xs.zip (ds.zip ks)).mergeSort fun a b => W.dataLe true (fun b : D × D => b.2) a.2 b.2 := rfl
    have em : ((xs.zip (ds.zip ks)).mergeSort (W.dataLe true fun b => b.2.2)).map (·.2) = (ds.zip ks).mergeSort (W.dataLe true fun b => b.2) := by
      have z : ((xs.zip (ds.zip ks)).mergeSort (W.dataLe true fun b => b.2.2)).map (·.2) = ((xs.zip (ds.zip ks)).map (·.2)).mergeSort (W.dataLe true fun b => b.2) :=
        List.map_mergeSort (f := fun x : V × D × D => x.2) fun a _ b _ => rfl
      rw [z, m2]
    refine q pp _ _ (e1.back (e2.back np)) ((e1.trans e13).trans (Ex.new np3)) upd_same ?_
    have hall' : ∀ x ∈ ((xs.zip (ds.zip ks)).mergeSort (W.dataLe true fun b => b.2.2)).map (fun b => (b.1, b.2.1)), R X.K (Cl G σ sd) H3 x.1 x.2 := fun x hx => by
      obtain ⟨b, hb', rfl⟩ := List.mem_map.mp hx
      exact (zl b ((List.mergeSort_perm _ _).mem_iff.mp hb')).1.ex e13
    have rr := RA.pairs hall'
    rw [List.map_map, List.map_map] at rr
    have l2 : ((xs.zip (ds.zip ks)).mergeSort (W.dataLe true fun b => b.2.2)).map ((fun x : V × D => x.2) ∘ fun b : V × D × D => (b.1, b.2.1)) = sortByR true ds ks := by
      unfold sortByR
      rw [← em, List.map_map]
      rfl
    rw [l2] at rr
    exact (rr.free np3).ex (Ex.new np3)
end
end DD

/-! # A def that makes lambdas: where its code object stands is known -/
namespace DD
variable [LTb]
open PySem PySem.Spec PyProof.Rows L2
section
variable {P : Program} {w : World} {K : Fg} {mg : Str → Option Value} {base : Heap} {C : XC}
theorem fn_dataL {x qual : Str} {st : Stmt} {f c : Addr} {fd : FuncData} {N ps : List Str} {k n : Nat} {body : MS} (F : L2.Fun K x qual st f fd) (hL : fd.code = .ref c) (Sc : FnScope N ps (defScope st)) (hn : ps.length = n) (hN : n ≤ N.length)
    (hb : ∀ (A : Around) (outer : List Env) (s : Shared) (H : Hp) (E : XK), Room k (A.deeper (PyProof.Rows.envOfC qual (defScope st) s.heap.objs.size f (.ref c))) →
      XSs K C E (cxOf CX0 P w K mg base N qual (defScope st) f (.ref c) A outer s H E).nox (defBody st) body) :
    FnOk P w K mg base CX0 (k + 1) f fd ps (spD K C n (mFn N.length body)) := by
  obtain ⟨oc, od, kV, doc, pm, an, cdv, ct, osl, rfl, lk, hcd⟩ := F.ex
  have hL' : cdv = .ref c := hL
  subst hL'
  refine fn_of lk hcd Sc (fun vs H Q E ⟨B, ds, h1, h2, _, _⟩ => by rw [h2.length, h1, hn]) fun A outer s H vs Q E hr ⟨B, ds, h1, h2, ht, h3⟩ => ⟨_, (hb A outer s H E hr).nox, ?_⟩
  refine ⟨H, fun a => B a ∨ H a = none, startS N.length ds, rs_start h2 ht (by omega), ?_⟩
  unfold mFn at h3
  cases ho : body (startS N.length ds) with
  | nx s' => rw [ho] at h3; exact fun σ' H' r t => h3 H' r.ex
  | rt d => rw [ho] at h3; exact fun v H' e r => h3 v H' e r
  | rtl es => rw [ho] at h3; exact fun p xs H' hp e h r => h3 p xs H' hp e h r
  | ex c fs => rw [ho] at h3; exact fun cls d H' e q => h3 cls d H' e q
  | bk s' => rw [ho] at h3; exact h3.elim
  | ct s' => rw [ho] at h3; exact h3.elim
  | no => rw [ho] at h3; exact h3.elim
end
end DD

/-! # sorted(range(..), key=..) -/
namespace DD
open PySem PySem.Spec PyProof.Rows L2
variable [LTb]
section
variable {X : Cx} {pins : List (Addr × Obj)} {σ : L2.St} {H : Hp} {s : Shared}
theorem sortkey_core {f c' a : Addr} {vs : List Value} {hA : Heap} {E' : Value → Shared → Prop} {params : Arguments} {body : Expr} {scope : Scope} {pm ctv : Value} {cl : List (Str × Addr)} {fr : List Str} {js : List Nat} {rev : Bool} {kw : List (Str × Value)} {k : Nat} {N : List Str} {y q : Str} {t : TE} {xs : List V} {bs : List (V × D × D)} {Q : VK}
    (cp : NdefX.Caps X cl fr js) (kw3 : ∀ a : Addr, Builtin.«list.sort» ⟨[.ref a], kw⟩ = ksk_tree a (.ref f) rev)
    (I : Inv X pins σ H s) (hr : Room (k + 3) X.A) (rv : Vals xs vs) (hz : xs.length ≤ sizeLine) (ho : hA.get? a = some (seqObj "list" vs.toArray 0)) (oldA : ∀ b o, s.heap.get? b = some o → hA.get? b = some o) (hag : s.heap.objs.size ≤ a) (hx : bs.map (·.1) = xs) (hf : s.heap.get? f = some (PySem.W.kla_obj "<lambda>" q params body scope cl pm c' ctv)) (hfn : H f = none) (hfr : f ∉ frs X.stack) (hco : H c' = some (LamX.CodeO c' q))
    (S : NdefX.NScope N [y] fr scope) (hb : ∀ (s : Shared) (u : Value), BindsTo s (PySem.W.kla_fn "<lambda>" q params body scope cl pm (.ref c') ctv) ⟨[u], []⟩ [(y, u)])
    (hbody : ∀ (A : Around) (outer : List Env) (s : Shared) (H : Hp), Room k (A.deeper (NdefX.envF (lamF q params scope cl c') f s.heap.objs.size)) → PE (NdefX.ncx CX0 X.prog X.w X.K X.mg X.base N (lamF q params scope cl c') f A outer s H (fun _ _ _ => False)) body t)
    (turn : ∀ b ∈ bs, KeyCallC X.K t N (js.map (NdefX.slotAt σ)) H b) (hal : alikeAllB (bs.map (·.2.2)) = true) (hso : sortB (bs.map (·.2.2)) = true) (hdp : PyData.depthAll (bs.map (·.2.2)) ≤ 60) (hpl : plainD.go (bs.map (·.2.2)) = true)
    (fin : ∀ p H1, Ex H H1 → H p = none → H1 p = none → Q (.ref p) (upd H1 p (.lst ((bs.mergeSort (W.dataLe rev fun b => b.2.2)).map (·.1))))) :
    wpAny (model X.prog X.w) X.A.in1.in1 (Builtin.«list.sort» ⟨[.ref a], kw⟩) (fun fl s' => fl = .done (.ret .none) ∧ EP X pins σ Q (.ref a) s') E' { s with heap := hA } := by
  have hlen : vs.length = bs.length := by rw [← rv.length, ← hx, List.length_map]
  rw [kw3]
  have hzv : vs.length ≤ sizeLine := by rw [← rv.length]; exact hz
  obtain ⟨e1, ho1⟩ : ∃ e1, ((hA).update a (Obj.mapSeq fun _ => (#[] : Array Value))).get? a = some (seqObj "list" #[] e1) := ⟨_, get?_update_seq ho fun _ => #[]⟩
  have old : ∀ b o, s.heap.get? b = some o → (W.sortingHeap (hA) a vs).get? b = some o := fun b o e =>
    W.sortingHeap_old (fun w => by rw [w] at e; exact absurd (Nat.lt_of_lt_of_le (Heap.lt_size e) hag) (Nat.lt_irrefl _)) (oldA _ _ e)
  unfold ksk_tree
  refine wpAny_bind (listItems_at ho rfl ?_)
  refine wpAny_bind (listUpdate_at ho rfl ?_ (by rw [List.size_toArray]; exact hzv) (Nat.zero_le _))
  refine wpAny_bind (seqEpoch_at ho1 rfl ?_)
  refine wpAny_bind (wpAny_newTuple ?_ (by show vs.length ≤ _; exact hzv))
  refine wpAny_bind (wpAny_newList ?_ (Nat.zero_le _))
  refine wpAny_holding ?_
  generalize hk : (((hA).update a (Obj.mapSeq fun _ => (#[] : Array Value))).push (seqObj "tuple" vs.toArray 0)).objs.size = kS
  have hka : a < kS := by
    rw [← hk, size_push', Heap.size_update]
    exact Nat.lt_succ_of_lt (Heap.lt_size ho)
  have hkg : s.heap.objs.size ≤ kS := Nat.le_trans hag (Nat.le_of_lt hka)
  have hag3 : (W.sortingHeap (hA) a vs).get? a = some (seqObj "list" #[] e1) := Heap.get?_push_of_some _ (Heap.get?_push_of_some _ ho1)
  have hkg3 : (W.sortingHeap (hA) a vs).get? kS = some (seqObj "list" #[] 0) := by
    rw [← hk]
    exact Heap.get?_push_size _ rfl
  generalize hg3 : W.sortingHeap (hA) a vs = g3 at old hag3 hkg3
  have I3 : Inv X pins σ H { s with heap := g3 } := I.kept old
  have no : ∀ b, s.heap.objs.size ≤ b → b ∉ frs X.stack := fun b hb z => by
    rcases List.mem_cons.mp (I.stkSub _ z) with e | e
    · have h1 := I.lt
      rw [← e] at h1
      exact Nat.lt_irrefl _ (Nat.lt_of_lt_of_le h1 hb)
    · exact I.nofs hb e
  have T3 : KeyTurn X pins σ H f a kS e1 (PySem.W.kla_obj "<lambda>" q params body scope cl pm c' ctv) [] { s with heap := g3 } :=
    ⟨H, [], #[], 0, I3, Ex.refl H, hfn, I.hok.fresh hag, I.hok.fresh hkg, old _ _ hf, hag3, hkg3, .nil, .nil⟩
  show wpAny _ _ (ksk_rest a (.ref f) rev vs.toArray e1 (.ref kS)) _ _ ({ s with heap := W.sortingHeap (hA) a vs } : Shared)
  rw [hg3]
  unfold ksk_rest
  refine wpAny_bind (wpAny_rule ?_)
  first
    | rw [List.forIn_toArray]
    | (rw [← Array.forIn_toList]; simp only [List.toList_toArray])
  have fp : ∀ {H'} b, s.heap.objs.size ≤ b → H' b = none → FpOk X pins H' b := fun b hb n => I.fpOk hb n
  refine wpAny_bind (ksk_fold (fun i s' => KeyTurn X pins σ H f a kS e1 (PySem.W.kla_obj "<lambda>" q params body scope cl pm c' ctv) ((bs.take i).map (·.2.2)) s') vs 0 _ T3 ?step ?done)
  case step =>
    rintro j x s' hxj ⟨H', ks, kA, e, I', ex, nf, na, nk, gf, ga, gk, vk, fk⟩
    rw [Nat.zero_add] at fk ⊢
    have hj : j < bs.length := by rw [← hlen]; exact (List.getElem?_eq_some_iff.mp hxj).1
    have hbj : bs[j]? = some bs[j] := List.getElem?_eq_getElem hj
    have rx : RelV bs[j].1 x := by
      have h2 : xs[j]? = some bs[j].1 := by rw [← hx, List.getElem?_map, hbj]; rfl
      exact vals_at rv h2 hxj
    have hc2 := (I'.hok c' _ (ex.at_ c' _ hco nt_ext)).1
    refine wpAny_bind (wpAny_attempt (wpAny_call (codeAny_mono (run_lamC (F := lamF q params scope cl c') (E := fun _ _ _ => False) (Q := fun kv H2 => Ex H' H2 ∧ FX X.K H2 kv bs[j].2.2) S (hr.mono (by omega) : Room (k + 1 + 1 + 1) X.A).in1.in1 I'.env0.in1.in1 gf ?_ (hb _ x) (NdefX.cells_of I' cp) (.cons rx .nil) rfl (fun hr' => hbody _ _ _ _ hr') (turn _ (List.getElem_mem hj) H' ex _ fun kv H2 e2 fx => ⟨e2, fx⟩)) fun r s2 hq => ?_)))
    · obtain ⟨oc, fs, tk, z1, z2, z3⟩ := hc2
      exact ⟨_, oc, fs, tk, rfl, z1, z2, z3⟩
    · cases r with
      | error er => exact (show False from hq).elim
      | ok fl =>
        cases fl with
        | next => exact False.elim hq
        | brk => exact False.elim hq
        | cont => exact False.elim hq
        | ret u =>
          obtain ⟨kv, H2, hos, hbare, un, hok, rk, ex2, fx⟩ := hq
          have I2 : Inv X pins σ H2 s2 := I'.call' (ch := []) hos un hok hbare (fun b hb => nomatch hb)
          have gf2 := un.keep f _ gf nf hfr (fun z => nomatch z)
          have ga2 := un.keep a _ ga na (no a hag) (fun z => nomatch z)
          have gk2 := un.keep kS _ gk nk (no kS hkg) (fun z => nomatch z)
          have nf2 := un.free f _ gf nf (fun z => nomatch z)
          have na2 := un.free a _ ga na (fun z => nomatch z)
          have nk2 := un.free kS _ gk nk (fun z => nomatch z)
          have hzk : kA.size ≤ vs.length := by
            have z1 := fk.len
            have z2 := vk.length
            rw [List.length_map, List.length_take] at z1
            have z3 : kA.toList.length = kA.size := Array.length_toList
            omega
          show wpAny _ _ _ _ _ s2
          have sb := Heap.SameBut.update s2.heap kS (Obj.mapSeq (·.push u))
          obtain ⟨c2, hc2'⟩ : ∃ c2, (s2.heap.update kS (Obj.mapSeq (·.push u))).get? kS = some (seqObj "list" (kA.push u) c2) := ⟨_, get?_update_seq gk2 (·.push u)⟩
          refine wpAny_bind (listUpdate_at gk2 rfl ?_ (Nat.le_trans hzk hzv) (Nat.le_trans (Nat.le_of_eq (Array.size_push ..)) (Nat.succ_le_succ (Nat.le_trans hzk hzv))))
          obtain ⟨z0, z1, z2, z3, z4, z5⟩ := fp kS hkg nk2
          have I4 : Inv X pins σ H2 { s2 with heap := s2.heap.update kS (Obj.mapSeq (·.push u)), toks := s2.toks } := I2.turned (t' := s2.toks) (fun b o hb e => (sb.2 b hb).trans e) z0 z1 z3 z4 z5
          refine wpAny_pure ⟨rfl, H2, ks ++ [kv], kA.push u, c2, I4, ex.trans ex2, nf2, na2, nk2, ?_, ?_, hc2', ?_, ?_⟩
          · exact (sb.2 f (fun w => by rw [w, gk2] at gf2; have z := congrArg Obj.data (Option.some.inj gf2); cases z)).trans gf2
          · exact (sb.2 a (Nat.ne_of_lt hka)).trans ga2
          · rw [Array.toList_push]
            exact vk.append (.cons rk .nil)
          · rw [List.take_add_one, hbj]
            simp only [Option.toList_some, List.map_append, List.map_cons, List.map_nil]
            exact (fk.ex ex2).snoc fx
  case done =>
    rintro s' ⟨H', ks, kA, e, I', ex, nf, na, nk, gf, ga, gk, vk, fk⟩
    rw [Nat.zero_add, List.take_of_length_le (by omega)] at fk
    have hsz : kA.size = vs.length := by
      have z1 := fk.len
      have z2 := vk.length
      rw [List.length_map] at z1
      have z3 : kA.toList.length = kA.size := Array.length_toList
      omega
    show wpAny _ _ _ _ _ s'
    refine wpAny_bind (listItems_at gk rfl ?_)
    have hrd := keys_read I' fk hpl vk
    have kd : ∀ d, d ∈ bs.map (·.2.2) → X.A.in1.in1.units + d.depth < cLine := fun d hd => by
      have h1 := depth_le hd
      have h2 := hr.un
      show X.A.units + 2 + d.depth < cLine
      omega
    have hgk : (s'.heap.update kS fun _ => { cls := .none, data := .freed }).get? kS = none := gone (Heap.lt_size gk)
    have hup : ∀ b o, b ≠ kS → s'.heap.get? b = some o → (s'.heap.update kS fun _ => { cls := .none, data := .freed }).get? b = some o := fun b o hb e => (Heap.get?_update_ne _ _ _ _ hb).trans e
    have hdn : W.KeepsBut a (s'.heap.update kS fun _ => { cls := .none, data := .freed }) s'.heap := fun b o hb e => by
      by_cases w : b = kS
      · rw [w, hgk] at e; cases e
      · rw [Heap.get?_update_ne _ _ _ _ w] at e; exact e
    refine W.keyH_end (κ := W.dataKind s'.heap (bs.map (·.2.2))) (h₁ := s'.heap.update kS fun _ => { cls := .none, data := .freed }) hdn hgk gk ga (Nat.ne_of_gt hka) (W.SortsAt.data hrd (by simpa using alikeAllB_of hal) ?_ kd) hsz hzv fun h2 tk c kb g2 => ?_
    · have := sortB_of hso
      simpa using this
    have ko : W.KeyedOut rev (bs.map (·.2.2)) vs (W.sortVals (W.dataKind s'.heap (bs.map (·.2.2))) rev kA.toList vs) := ⟨s'.heap, kA.toList, by simpa using alikeAllB_of hal, rfl, hrd⟩
    have eo := W.keyedOut_each (R := fun v (b : V × D × D) => RelV b.1 v) (fun b => b.2.2) ko (each_triples (f := fun b : V × D × D => b.1) (fun _ _ h => h) (by rw [hx]; exact rv))
    have rvo := triples_each (f := fun b : V × D × D => b.1) eo
    generalize hout : W.sortVals (W.dataKind s'.heap (bs.map (·.2.2))) rev kA.toList vs = out at g2 ko eo rvo
    have hol : out.length = vs.length := ko.length (by rw [List.length_map]; omega)
    refine ⟨rfl, .ref a, upd H' a (.lst ((bs.mergeSort (W.dataLe rev fun b => b.2.2)).map (·.1))), ?_, rfl, fin a H' ex (I.hok.fresh hag) na⟩
    refine take2 (c := kS) I' (fun b ob hb hc e => kb b ob hb (hup b ob hc e)) (fp a hag na) (fp kS hkg nk) ?_
    · refine ⟨?_, out, c, rvo, g2⟩
      rw [rvo.length, hol]
      exact hzv
/-- sorted(range(lo, hi), ..) is list.sort(..) on a new list of its numbers -/
theorem sortedRange_of_sort {r : Addr} {lo hi : Int} {kw : List (Str × Value)} {E : Value → Shared → Prop} {QV : Value → Shared → Prop} (hh : X.A.handled = none) (hr : ∃ t u v, IsRange s.heap r lo hi 1 t u v) (ok : RgOk lo hi)
    (kw1 : ∀ l, argsOk "sorted" ⟨[.ref l], kw⟩) (kw2 : ∀ a, argsOk "list.sort" ⟨[.ref a], kw⟩)
    (body : ∀ (E' : Value → Shared → Prop) (h' : Heap) (tk : Nat) (vs : List Value), (∀ b o, s.heap.get? b = some o → h'.get? b = some o) → Vals (rgV lo hi) vs →
      wpAny (model X.prog X.w) X.A.in1.in1 (Builtin.«list.sort» ⟨[.ref h'.objs.size], kw⟩) (fun f s' => f = .done (.ret .none) ∧ QV (.ref h'.objs.size) s') E' { s with heap := h'.push (seqObj "list" vs.toArray 0), toks := tk }) :
    wpAny (model X.prog X.w) X.A (call (.builtin "sorted") [.ref r] kw) QV E s := by
  obtain ⟨t, u, v, hr⟩ := hr
  obtain ⟨b1, b2, b3, b4, b5⟩ := ok
  refine call_function_entry_kw kind_sorted plain_sorted entry_sorted (kw1 _) ?_
  unfold Builtin.«sorted»
  refine wpAny_bind (m := checkCount "sorted" 1 1 _) (wpAny_pure ?_)
  refine wpAny_bind (collect_range (n := (hi - lo).toNat) hh hr (small_one b1 b2 b3 b4) (rangeSize_nat lo hi) b5 fun h' tk acc keep hi' => ?_)
  have rv := vals_rg hi'
  have hl : acc.toList.length ≤ sizeLine := by
    rw [← rv.length, rgV_length, sizeLine_eq]
    omega
  refine wpAny_bind (wpAny_newList ?_ hl)
  refine wpAny_bind (wpAny_holding (wpAny_call_entry_kw slot_list_sort ⟨_, Heap.get?_push_size _ rfl, rfl⟩ entry_list_sort ?body (kw2 _)))
  case body =>
    show wpAny (model X.prog X.w) X.A.in1.in1 (Builtin.«list.sort» ⟨[.ref h'.objs.size], kw⟩) _ _ _
    refine wpAny_mono (body _ h' tk acc.toList keep rv) (fun f s' hf => ?_) fun _ _ e => e
    obtain ⟨rfl, hq⟩ := hf
    exact ⟨_, rfl, wpAny_pure ⟨_, rfl, hq⟩⟩
end
end DD

/-! # sorted(range(..), key=lambda y: .., reverse=..) over data -/
namespace DD
open PySem PySem.Spec PyProof.Rows L2
variable [LTb]
section
variable {X : Cx}
theorem cr_range1 : CallR X (.type "range") (fun vs H Q => ∃ j, vs = [V.int j] ∧ ∀ p, H p = none → Q (.ref p) (upd H p (.rng 0 j))) := by
  intro pins s σ H vs us Q I r h
  obtain ⟨j, rfl, q⟩ := h
  cases r with
  | cons r1 rr =>
    cases rr
    obtain ⟨u, rfl⟩ := r1
    refine call_range_1 ⟨.ref s.heap.objs.size, upd H s.heap.objs.size (.rng 0 j), I.laid (t' := s.toks + 2) (fun b o e => Heap.get?_push_of_some _ e) (Nat.le_refl _) ?_, rfl, q _ (I.hok.fresh (Nat.le_refl _))⟩
    exact ⟨_, u, _, Heap.get?_push_size _ rfl⟩
/-- a range that was made just now -/
def tRgD (K : Fg) (mi : ML) : TE := fun σ H Q => ∃ H0 G s ds, RS K H0 G σ H s ∧ mi s = some ds ∧ ∀ p lo hi H1, Ex H H1 → H1 p = some (.rng lo hi) → ds = rangeD lo (hi - lo).toNat → RgOk lo hi → Q (.ref p) H1
end
section
variable {K : Fg} {X : Cx} {a b : Expr} {ml : ML} {p pos : Pos}
theorem ra_rg {B : Addr → Prop} {H : Hp} {lo hi : Int} : RA K B H (rgV lo hi) (rangeD lo (hi - lo).toNat) := by
  unfold rgV rangeD
  generalize List.range (hi - lo).toNat = l
  induction l with
  | nil => exact .nil
  | cons i l ih => exact .cons (.int _) ih
theorem x_rgD1 (hg : Gl X "range") (hm : X.mg "range" = none) (ha : XAb K X [a] ml) (he : starEach [a] X.env = (false, eval a X.env) :: starEach [] X.env := by rfl) (hpl : (backTo pos (starEach [] X.env)).any (·.1) = false := by rfl) : PE X (.Call (.Name "range" p) [a] [] pos) (tRgD K (iRange1 ml)) :=
  pe_imp (pe_callTy cr_range1 hg hm boot_range ha (by decide) (by decide) he hpl) fun σ H Q ⟨H0, G, s, ds, r, e, q⟩ => by
    unfold iRange1 at e
    obtain ⟨es, hn, e⟩ := some_bind e
    split at e
    · rename_i n
      obtain ⟨hl, e⟩ := if_some e
      cases e
      have hl' := of_decide_eq_true hl
      refine ⟨H0, G, s, _, r, hn, fun vs H1 e1 rv => ?_⟩
      cases rv with
      | cons h1 h2 =>
        cases h1; cases h2
        exact ⟨n, rfl, fun pp hpp => q pp 0 n _ (e1.trans (Ex.new hpp)) upd_same (by rw [Int.sub_zero]) ⟨by omega, by omega, by omega, by omega, by omega⟩⟩
    · cases e
theorem x_rgD2 (hg : Gl X "range") (hm : X.mg "range" = none) (ha : XAb K X [a, b] ml) (he : starEach [a, b] X.env = (false, eval a X.env) :: starEach [b] X.env := by rfl) (hpl : (backTo pos (starEach [b] X.env)).any (·.1) = false := by rfl) : PE X (.Call (.Name "range" p) [a, b] [] pos) (tRgD K (iRange2 ml)) :=
  pe_imp (pe_callTy cr_range2 hg hm boot_range ha (by decide) (by decide) he hpl) fun σ H Q ⟨H0, G, s, ds, r, e, q⟩ => by
    unfold iRange2 at e
    obtain ⟨es, hn, e⟩ := some_bind e
    split at e
    · rename_i i j
      obtain ⟨hl, e⟩ := if_some e
      cases e
      have hl2 : lim i = true ∧ lim j = true := by simpa using hl
      have hi := of_decide_eq_true hl2.1
      have hj := of_decide_eq_true hl2.2
      refine ⟨H0, G, s, _, r, hn, fun vs H1 e1 rv => ?_⟩
      cases rv with
      | cons h1 h2 =>
        cases h1
        cases h2 with
        | cons h2 h3 =>
          cases h2; cases h3
          exact ⟨i, j, rfl, fun pp hpp => q pp i j _ (e1.trans (Ex.new hpp)) upd_same rfl ⟨by omega, by omega, by omega, by omega, by omega⟩⟩
    · cases e
end
def mSortG (rev : Bool) (n : Nat) (js : List Nat) (me : M) (mi : ML) : ML := fun s => (mi s).bind fun ds => (capt s js).bind fun cs => (keysCp n cs me ds).bind fun ks => if alikeAllB ks = true ∧ sortB ks = true ∧ PyData.depthAll ks ≤ 60 ∧ flatD.go ks = true then some (sortByR rev ds ks) else none
section
variable {K : Fg} {X : Cx} {e body : Expr} {m me : M} {params : Arguments} {scope : Scope} {p pos lpos kpos : Pos} {c P : Addr} {k k' : Nat} {N : List Str} {y : Str}
theorem l_sortG {mi : ML} {fr : List Str} {js : List Nat} (hK : X.K = K) (hr : Room k' X.A) (hkk : k + 3 ≤ k') (hg : Gl X "sorted") (hm : X.mg "sorted" = none) (ha : PE X e (tRgD K mi)) (TB : LamX.TabB X.base X.mg c P) (hcode : X.env.code = .ref c) (t0 : (P, X.env.qual ++ "<lambda>") ∈ LTb.T) (t1 : ∀ p ∈ LTb.T, p.1 = P → p.2 = X.env.qual ++ "<lambda>")
    (hdef : defaultsOf params X.env = ([], [])) (S : NdefX.NScope N [y] fr scope) (hn : NdefX.ndefB X.env.scope scope fr = true) (hjs : js.map (fun j => X.N[j]?) = fr.map some) (hb : ∀ (f c' : Addr) (pm ctv : Value) (s : Shared) (u : Value), BindsTo s (PySem.W.kla_fn "<lambda>" (X.env.qual ++ "<lambda>") params body scope (cloFrom X.env.cells scope.names []) pm (.ref c') ctv) ⟨[u], []⟩ [(y, u)])
    (hbody : ∀ (f c' : Addr) (A : Around) (outer : List Env) (s : Shared) (H : Hp), Room k (A.deeper (NdefX.envF (lamF (X.env.qual ++ "<lambda>") params scope (cloFrom X.env.cells scope.names []) c') f s.heap.objs.size)) → XE K (NdefX.ncx CX0 X.prog X.w X.K X.mg X.base N (lamF (X.env.qual ++ "<lambda>") params scope (cloFrom X.env.cells scope.names []) c') f A outer s H (fun _ _ _ => False)) body me)
    (he0 : starEach [e] X.env = (false, eval e X.env) :: starEach [] X.env := by rfl) (he : backTo pos (starEach [e] X.env) = (false, eval e X.env) :: backTo pos (starEach [] X.env) := by rfl) (hpl : (backTo pos (starEach [e] X.env)).any (·.1) = false := by rfl)
    (hall : (backToKw pos (keywordEach [⟨some "key", .Lambda params body scope lpos, kpos⟩] X.env)).all (·.1.isSome) = true := by rfl) (hnone : (backToKw pos (keywordEach [⟨some "key", .Lambda params body scope lpos, kpos⟩] X.env)).any (·.1.isNone) = false := by rfl) :
    XL K X (.Call (.Name "sorted" p) [e] [⟨some "key", .Lambda params body scope lpos, kpos⟩] pos) (mSortG false N.length js me mi) := by
  subst hK
  refine ⟨fun pins s σ H Q I ⟨H0, G, sd, es, r, e0, q⟩ => ?_⟩
  obtain ⟨ds, ed, e0⟩ := some_bind e0
  obtain ⟨cs, ec, e0⟩ := some_bind e0
  obtain ⟨ks, ek, e0⟩ := some_bind e0
  obtain ⟨⟨h1, h2, h3, h4⟩, e0⟩ := if_some e0
  cases e0
  refine wpAny_Call_Name_kw (ld_blt (u := .builtin "sorted") I hg hm (by decide +kernel) ?_ (by decide))
  refine PyProof.Rows.callWith_kw (thn ((pa_cons ha pa_nil he0).run pos pins s σ H (fun vs H1 => ∃ p lo hi, vs = [.ref p] ∧ Ex H H1 ∧ H1 p = some (.rng lo hi) ∧ ds = rangeD lo (hi - lo).toNat ∧ RgOk lo hi) I ⟨H0, G, sd, _, r, ed, fun p lo hi H1 e1 hp hd ok => ⟨p, lo, hi, rfl, e1, hp, hd, ok⟩⟩) fun us s1 hu => ?_) he hpl hall hnone
  obtain ⟨vs, H1, I1, r1, pl, lo, hi, rfl, e1, hp, hds, ok⟩ := hu
  have ra : RA X.K (Cl G σ sd) H1 (rgV lo hi) ds := by rw [hds]; exact ra_rg
  generalize hxs : rgV lo hi = xs at ra
  rw [Vals.ref1 r1]
  have rs1 := r.mono e1
  show wpAny _ _ (evalAll ((do let v ← eval (.Lambda params body scope lpos) X.env; standAt pos; pure v) :: [])) _ _ s1
  refine wpAny_evalAll_cons (wpAny_bind (lam_newC I1 TB hcode t0 t1 rs1.tb hdef (NdefX.ndef_free hn) fun f c' pm ctv H2 s2 I2 e2 gf nf ff hc => wpAny_bind (wpAny_standAt (wpAny_pure (wpAny_evalAll_nil ?_)))))
  have rs2 := rs1.mono e2
  have hz := keysCp_len ek
  have lx := ra.length
  have zl : ∀ x ∈ xs.zip (ds.zip ks), R X.K (Cl G σ sd) H1 x.1 x.2.1 ∧ me (startS N.length (x.2.1 :: cs)) = some x.2.2 ∧ x.2.2 ∈ ks := fun x hx => by
    obtain ⟨j, hj⟩ := List.getElem?_of_mem hx
    rw [List.getElem?_zip_eq_some] at hj
    obtain ⟨z1, z2⟩ := hj
    rw [List.getElem?_zip_eq_some] at z2
    obtain ⟨d', hd', rd'⟩ := ra.getV z1
    rw [z2.1] at hd'
    cases hd'
    exact ⟨rd', keysCp_at ek z2.1 z2.2, List.mem_of_getElem? z2.2⟩
  have m1 : (xs.zip (ds.zip ks)).map (·.1) = xs := List.map_fst_zip (by rw [List.length_zip]; omega)
  have m2 : (xs.zip (ds.zip ks)).map (·.2) = ds.zip ks := List.map_snd_zip (by rw [List.length_zip]; omega)
  have m3 : (xs.zip (ds.zip ks)).map (fun b => b.2.2) = ks := by
    have : (fun b : V × D × D => b.2.2) = (fun b : D × D => b.2) ∘ (·.2) := rfl
    rw [this, ← List.map_map, m2]
    exact List.map_snd_zip (by omega)
  have hrg := e2.at_ pl _ hp (fun _ h => by cases h)
  refine sortedRange_of_sort (X := X) (kw := [(Str.ofString "key", .ref f)]) (hr.hd) (let ⟨t, u, v, z⟩ := I2.hok pl _ hrg; ⟨t, u, v, z⟩) ok (fun _ => ksk_s1 _ _) (fun _ => ksk_l1 _ _) fun E2 h2' tk2 vs2 keep rv2 => ?_
  refine sortkey_core (s := { s2 with heap := h2', toks := tk2 }) (Q := Q) (bs := xs.zip (ds.zip ks)) (kw := [(Str.ofString "key", .ref f)]) (rev := false) (NdefX.Caps.made I2.ok (NdefX.ndef_free hn) (NdefX.ndef_fr hn) hjs) (fun _ => ksk_t1 _ _) (I2.kept (t' := tk2) keep) (hr.mono hkk) (hxs ▸ rv2) (by rw [← hxs, rgV_length, sizeLine_eq]; have := ok.2.2.2.2; omega) (Heap.get?_push_size _ rfl) (fun b o e => Heap.get?_push_of_some _ e) (Nat.le_refl _) m1 (keep _ _ gf) nf ff hc S (fun s u => hb f c' pm ctv s u) (fun A outer s H hr' => hbody f c' A outer s H hr') (fun b hbm => ?_) (by rw [m3]; exact h1) (by rw [m3]; exact h2) (by rw [m3]; exact h3) (by rw [m3]; exact flat_plain.go ks h4) fun pp H3 e3 np np3 => ?_
  · intro H3 e3 Q' hq
    obtain ⟨z1, z2, z3⟩ := zl b hbm
    have rb := ((z1.ex (e2.trans e3)).wider (B' := fun _ => True) fun _ _ => trivial)
    obtain ⟨ws, w1, w2⟩ := capt_ok r ec
    have rc := w2.ex (e1.trans (e2.trans e3))
    have wl : ws.length = fr.length := by
      have q1 := congrArg List.length w1
      have q2 := congrArg List.length hjs
      rw [List.length_map, List.length_map] at q1 q2
      omega
    have hpre : 1 + fr.length ≤ N.length := by
      have h5 := congrArg List.length S.pre
      rw [List.length_take, List.length_append] at h5
      simp at h5
      omega
    have est : NdefX.startF N [b.1] (js.map (NdefX.slotAt σ)) = L2.start N (b.1 :: ws) := by
      rw [w1]
      unfold NdefX.startF L2.start
      simp [Nat.sub_sub, Nat.add_comm]
    rw [est]
    have cl2 := w2.length
    refine ⟨H3, _, startS N.length (b.2.1 :: cs), b.2.2, rs_start (.cons rb rc) (e3.tb rs2.tb) (by rw [List.length_cons]; omega), z2, fun kv H4 e4 rk => hq kv H4 e4 (R.fx _ _ (flat_mem h4 z3) rk)⟩
  · have e13 := e2.trans e3
    have srt : (xs.zip (ds.zip ks)).mergeSort (W.dataLe false fun b => b.2.2) = (xs.zip (ds.zip ks)).mergeSort fun a b => W.dataLe false (fun b : D × D => b.2) a.2 b.2 := rfl
    have em : ((xs.zip (ds.zip ks)).mergeSort (W.dataLe false fun b => b.2.2)).map (·.2) = (ds.zip ks).mergeSort (W.dataLe false fun b => b.2) := by
      have z : ((xs.zip (ds.zip ks)).mergeSort (W.dataLe false fun b => b.2.2)).map (·.2) = ((xs.zip (ds.zip ks)).map (·.2)).mergeSort (W.dataLe false fun b => b.2) :=
        List.map_mergeSort (f := fun x : V × D × D => x.2) fun a _ b _ => rfl
      rw [z, m2]
    refine q pp _ _ (e1.back (e2.back np)) ((e1.trans e13).trans (Ex.new np3)) upd_same ?_
    have hall' : ∀ x ∈ ((xs.zip (ds.zip ks)).mergeSort (W.dataLe false fun b => b.2.2)).map (fun b => (b.1, b.2.1)), R X.K (Cl G σ sd) H3 x.1 x.2 := fun x hx => by
      obtain ⟨b, hb', rfl⟩ := List.mem_map.mp hx
      exact (zl b ((List.mergeSort_perm _ _).mem_iff.mp hb')).1.ex e13
    have rr := RA.pairs hall'
    rw [List.map_map, List.map_map] at rr
    have l2 : ((xs.zip (ds.zip ks)).mergeSort (W.dataLe false fun b => b.2.2)).map ((fun x : V × D => x.2) ∘ fun b : V × D × D => (b.1, b.2.1)) = sortByR false ds ks := by
      unfold sortByR
      rw [← em, List.map_map]
      rfl
    rw [l2] at rr
    exact (rr.free np3).ex (Ex.new np3)
theorem l_sortGR {mi : ML} {fr : List Str} {js : List Nat} {rk : Nat} {rp kpos2 : Pos} (hK : X.K = K) (hr : Room k' X.A) (hkk : k + 3 ≤ k') (hg : Gl X "sorted") (hm : X.mg "sorted" = none) (ha : PE X e (tRgD K mi)) (TB : LamX.TabB X.base X.mg c P) (hcode : X.env.code = .ref c) (t0 : (P, X.env.qual ++ "<lambda>") ∈ LTb.T) (t1 : ∀ p ∈ LTb.T, p.1 = P → p.2 = X.env.qual ++ "<lambda>")
    (hdef : defaultsOf params X.env = ([], [])) (S : NdefX.NScope N [y] fr scope) (hn : NdefX.ndefB X.env.scope scope fr = true) (hjs : js.map (fun j => X.N[j]?) = fr.map some) (hb : ∀ (f c' : Addr) (pm ctv : Value) (s : Shared) (u : Value), BindsTo s (PySem.W.kla_fn "<lambda>" (X.env.qual ++ "<lambda>") params body scope (cloFrom X.env.cells scope.names []) pm (.ref c') ctv) ⟨[u], []⟩ [(y, u)])
    (hbody : ∀ (f c' : Addr) (A : Around) (outer : List Env) (s : Shared) (H : Hp), Room k (A.deeper (NdefX.envF (lamF (X.env.qual ++ "<lambda>") params scope (cloFrom X.env.cells scope.names []) c') f s.heap.objs.size)) → XE K (NdefX.ncx CX0 X.prog X.w X.K X.mg X.base N (lamF (X.env.qual ++ "<lambda>") params scope (cloFrom X.env.cells scope.names []) c') f A outer s H (fun _ _ _ => False)) body me)
    (he0 : starEach [e] X.env = (false, eval e X.env) :: starEach [] X.env := by rfl) (he : backTo pos (starEach [e] X.env) = (false, eval e X.env) :: backTo pos (starEach [] X.env) := by rfl) (hpl : (backTo pos (starEach [e] X.env)).any (·.1) = false := by rfl)
    (hall : (backToKw pos (keywordEach [⟨some "key", .Lambda params body scope lpos, kpos⟩, ⟨some "reverse", .Constant (.bool true) rk rp, kpos2⟩] X.env)).all (·.1.isSome) = true := by rfl) (hnone : (backToKw pos (keywordEach [⟨some "key", .Lambda params body scope lpos, kpos⟩, ⟨some "reverse", .Constant (.bool true) rk rp, kpos2⟩] X.env)).any (·.1.isNone) = false := by rfl) :
    XL K X (.Call (.Name "sorted" p) [e] [⟨some "key", .Lambda params body scope lpos, kpos⟩, ⟨some "reverse", .Constant (.bool true) rk rp, kpos2⟩] pos) (mSortG true N.length js me mi) := by
  subst hK
  refine ⟨fun pins s σ H Q I ⟨H0, G, sd, es, r, e0, q⟩ => ?_⟩
  obtain ⟨ds, ed, e0⟩ := some_bind e0
  obtain ⟨cs, ec, e0⟩ := some_bind e0
  obtain ⟨ks, ek, e0⟩ := some_bind e0
  obtain ⟨⟨h1, h2, h3, h4⟩, e0⟩ := if_some e0
  cases e0
  refine wpAny_Call_Name_kw (ld_blt (u := .builtin "sorted") I hg hm (by decide +kernel) ?_ (by decide))
  refine PyProof.Rows.callWith_kw (thn ((pa_cons ha pa_nil he0).run pos pins s σ H (fun vs H1 => ∃ p lo hi, vs = [.ref p] ∧ Ex H H1 ∧ H1 p = some (.rng lo hi) ∧ ds = rangeD lo (hi - lo).toNat ∧ RgOk lo hi) I ⟨H0, G, sd, _, r, ed, fun p lo hi H1 e1 hp hd ok => ⟨p, lo, hi, rfl, e1, hp, hd, ok⟩⟩) fun us s1 hu => ?_) he hpl hall hnone
  obtain ⟨vs, H1, I1, r1, pl, lo, hi, rfl, e1, hp, hds, ok⟩ := hu
  have ra : RA X.K (Cl G σ sd) H1 (rgV lo hi) ds := by rw [hds]; exact ra_rg
  generalize hxs : rgV lo hi = xs at ra
  rw [Vals.ref1 r1]
  have rs1 := r.mono e1
  show wpAny _ _ (evalAll ((do let v ← eval (.Lambda params body scope lpos) X.env; standAt pos; pure v) :: (do let v ← eval (.Constant (.bool true) rk rp) X.env; standAt pos; pure v) :: [])) _ _ s1
  refine wpAny_evalAll_cons (wpAny_bind (lam_newC I1 TB hcode t0 t1 rs1.tb hdef (NdefX.ndef_free hn) fun f c' pm ctv H2 s2 I2 e2 gf nf ff hc => wpAny_bind (wpAny_standAt (wpAny_pure (wpAny_evalAll_cons (wpAny_bind (Constant_bool (wpAny_bind (wpAny_standAt (wpAny_pure (wpAny_evalAll_nil ?_)))))))))))
  have rs2 := rs1.mono e2
  have hz := keysCp_len ek
  have lx := ra.length
  have zl : ∀ x ∈ xs.zip (ds.zip ks), R X.K (Cl G σ sd) H1 x.1 x.2.1 ∧ me (startS N.length (x.2.1 :: cs)) = some x.2.2 ∧ x.2.2 ∈ ks := fun x hx => by
    obtain ⟨j, hj⟩ := List.getElem?_of_mem hx
    rw [List.getElem?_zip_eq_some] at hj
    obtain ⟨z1, z2⟩ := hj
    rw [List.getElem?_zip_eq_some] at z2
    obtain ⟨d', hd', rd'⟩ := ra.getV z1
    rw [z2.1] at hd'
    cases hd'
    exact ⟨rd', keysCp_at ek z2.1 z2.2, List.mem_of_getElem? z2.2⟩
  have m1 : (xs.zip (ds.zip ks)).map (·.1) = xs := List.map_fst_zip (by rw [List.length_zip]; omega)
  have m2 : (xs.zip (ds.zip ks)).map (·.2) = ds.zip ks := List.map_snd_zip (by rw [List.length_zip]; omega)
  have m3 : (xs.zip (ds.zip ks)).map (fun b => b.2.2) = ks := by
    have : (fun b : V × D × D => b.2.2) = (fun b : D × D => b.2) ∘ (·.2) := rfl
    rw [this, ← List.map_map, m2]
    exact List.map_snd_zip (by omega)
  have hrg := e2.at_ pl _ hp (fun _ h => by cases h)
  refine sortedRange_of_sort (X := X) (kw := [(Str.ofString "key", .ref f), (Str.ofString "reverse", .bool true)]) (hr.hd) (let ⟨t, u, v, z⟩ := I2.hok pl _ hrg; ⟨t, u, v, z⟩) ok (fun _ => ksk_s2 _ _ _) (fun _ => ksk_l2 _ _ _) fun E2 h2' tk2 vs2 keep rv2 => ?_
  refine sortkey_core (s := { s2 with heap := h2', toks := tk2 }) (Q := Q) (bs := xs.zip (ds.zip ks)) (kw := [(Str.ofString "key", .ref f), (Str.ofString "reverse", .bool true)]) (rev := true) (NdefX.Caps.made I2.ok (NdefX.ndef_free hn) (NdefX.ndef_fr hn) hjs) (fun _ => ksk_t2 _ _ _) (I2.kept (t' := tk2) keep) (hr.mono hkk) (hxs ▸ rv2) (by rw [← hxs, rgV_length, sizeLine_eq]; have := ok.2.2.2.2; omega) (Heap.get?_push_size _ rfl) (fun b o e => Heap.get?_push_of_some _ e) (Nat.le_refl _) m1 (keep _ _ gf) nf ff hc S (fun s u => hb f c' pm ctv s u) (fun A outer s H hr' => hbody f c' A outer s H hr') (fun b hbm => ?_) (by rw [m3]; exact h1) (by rw [m3]; exact h2) (by rw [m3]; exact h3) (by rw [m3]; exact flat_plain.go ks h4) fun pp H3 e3 np np3 => ?_
  · intro H3 e3 Q' hq
    obtain ⟨z1, z2, z3⟩ := zl b hbm
    have rb := ((z1.ex (e2.trans e3)).wider (B' := fun _ => True) fun _ _ => trivial)
    obtain ⟨ws, w1, w2⟩ := capt_ok r ec
    have rc := w2.ex (e1.trans (e2.trans e3))
    have wl : ws.length = fr.length := by
      have q1 := congrArg List.length w1
      have q2 := congrArg List.length hjs
      rw [List.length_map, List.length_map] at q1 q2
      omega
    have hpre : 1 + fr.length ≤ N.length := by
      have h5 := congrArg List.length S.pre
      rw [List.length_take, List.length_append] at h5
      simp at h5
      omega
    have est : NdefX.startF N [b.1] (js.map (NdefX.slotAt σ)) = L2.start N (b.1 :: ws) := by
      rw [w1]
      unfold NdefX.startF L2.start
      simp [Nat.sub_sub, Nat.add_comm]
    rw [est]
    have cl2 := w2.length
    refine ⟨H3, _, startS N.length (b.2.1 :: cs), b.2.2, rs_start (.cons rb rc) (e3.tb rs2.tb) (by rw [List.length_cons]; omega), z2, fun kv H4 e4 rk => hq kv H4 e4 (R.fx _ _ (flat_mem h4 z3) rk)⟩
  · have e13 := e2.trans e3
    have srt : (xs.zip (ds.zip ks)).mergeSort (W.dataLe true fun b => b.2.2) = (xs.zip (ds.zip ks)).mergeSort fun a b => W.dataLe true (fun b : D × D => b.2) a.2 b.2 := rfl
    have em : ((xs.zip (ds.zip ks)).mergeSort (W.dataLe true fun b => b.2.2)).map (·.2) = (ds.zip ks).mergeSort (W.dataLe true fun b => b.2) := by
      have z : ((xs.zip (ds.zip ks)).mergeSort (W.dataLe true fun b => b.2.2)).map (·.2) = ((xs.zip (ds.zip ks)).map (·.2)).mergeSort (W.dataLe true fun b => b.2) :=
        List.map_mergeSort (f := fun x : V × D × D => x.2) fun a _ b _ => rfl
      rw [z, m2]
    refine q pp _ _ (e1.back (e2.back np)) ((e1.trans e13).trans (Ex.new np3)) upd_same ?_
    have hall' : ∀ x ∈ ((xs.zip (ds.zip ks)).mergeSort (W.dataLe true fun b => b.2.2)).map (fun b => (b.1, b.2.1)), R X.K (Cl G σ sd) H3 x.1 x.2 := fun x hx => by
      obtain ⟨b, hb', rfl⟩ := List.mem_map.mp hx
      exact (zl b ((List.mergeSort_perm _ _).mem_iff.mp hb')).1.ex e13
    have rr := RA.pairs hall'
    rw [List.map_map, List.map_map] at rr
    have l2 : ((xs.zip (ds.zip ks)).mergeSort (W.dataLe true fun b => b.2.2)).map ((fun x : V × D => x.2) ∘ fun b : V × D × D => (b.1, b.2.1)) = sortByR true ds ks := by
      unfold sortByR
      rw [← em, List.map_map]
      rfl
    rw [l2] at rr
    exact (rr.free np3).ex (Ex.new np3)
end
end DD

/-! # Reckoning with the data forms -/
namespace DD
open PySem L2
def Out.andThen (o : Out) (b : MS) : Out := match o with
  | .nx s => b s
  | o => o
@[simp] theorem at_nx {s : S} {b : MS} : Out.andThen (.nx s) b = b s := rfl
@[simp] theorem at_no {b : MS} : Out.andThen .no b = .no := rfl
@[simp] theorem at_rt {d : D} {b : MS} : Out.andThen (.rt d) b = .rt d := rfl
@[simp] theorem at_rtl {d : List D} {b : MS} : Out.andThen (.rtl d) b = .rtl d := rfl
@[simp] theorem at_bk {s : S} {b : MS} : Out.andThen (.bk s) b = .bk s := rfl
@[simp] theorem at_ct {s : S} {b : MS} : Out.andThen (.ct s) b = .ct s := rfl
@[simp] theorem at_ite {p : Prop} [Decidable p] {x y : Out} {b : MS} : Out.andThen (if p then x else y) b = if p then Out.andThen x b else Out.andThen y b := by split <;> rfl
@[simp] theorem e_seq {a b : MS} {s : S} : mSeq a b s = Out.andThen (a s) b := by unfold mSeq Out.andThen; cases a s <;> rfl
@[simp] theorem e_next {s : S} : mNext s = .nx s := rfl
@[simp] theorem e_pass {s : S} : mPass s = .nx s := rfl
@[simp] theorem e_brk {s : S} : mBrk s = .bk s := rfl
@[simp] theorem e_ct {s : S} : mCt s = .ct s := rfl
@[simp] theorem e_ifS {c : MB} {a b : MS} {s : S} : mIfS c a b s = (c s).elim .no fun t => if t = true then a s else b s := by
  unfold mIfS
  cases c s with
  | none => rfl
  | some t => cases t <;> rfl
@[simp] theorem e_asg {i : Nat} {m : M} {s : S} : mAsg i m s = (m s).elim .no fun d => .nx (s.set i (some (.sh d))) := by unfold mAsg; cases m s <;> rfl
@[simp] theorem e_asgL {i : Nat} {m : ML} {s : S} : mAsgL i m s = (m s).elim .no fun d => .nx (s.set i (some (.ow d))) := by unfold mAsgL; cases m s <;> rfl
@[simp] theorem e_asgG {g : MG} {m : M} {s : S} : mAsgG g m s = ((m s).bind fun d => g d s).elim .no .nx := by unfold mAsgG; cases (m s).bind fun d => g d s <;> rfl
@[simp] theorem e_ret {m : M} {s : S} : mRet m s = (m s).elim .no .rt := by unfold mRet; cases m s <;> rfl
@[simp] theorem e_retL {m : ML} {s : S} : mRetL m s = (m s).elim .no .rtl := by unfold mRetL; cases m s <;> rfl
@[simp] theorem e_drop {m : M} {s : S} : mDrop m s = (m s).elim .no fun _ => .nx s := by unfold mDrop; cases m s <;> rfl
def owAt : Option (Option Sl) → Option (List D)
  | some (some (.ow ds)) => some ds
  | _ => none
def shAt : Option (Option Sl) → Option D
  | some (some (.sh d)) => some d
  | _ => none
def anyAt : Option (Option Sl) → Option D
  | some (some (.sh d)) => some d
  | some (some (.own c)) => some (dataC c)
  | _ => none
def conAt : Option (Option Sl) → Option Cont
  | some (some (.own c)) => some c
  | _ => none
def odAt : Option (Option Sl) → Option (List (D × D))
  | some (some (.od kvs)) => some kvs
  | _ => none
def retAt : Option (Option Sl) → Out
  | some (some (.ow ds)) => .rtl ds
  | some (some (.od kvs)) => .rt (.dict kvs)
  | some (some (.sh d)) => .rt d
  | _ => .no
@[simp] theorem owAt_1 {ds : List D} : owAt (some (some (.ow ds))) = some ds := rfl
@[simp] theorem conAt_1 {c : Cont} : conAt (some (some (.own c))) = some c := rfl
@[simp] theorem conAt_2 {d : D} : conAt (some (some (.sh d))) = none := rfl
@[simp] theorem conAt_3 : conAt (some none) = none := rfl
@[simp] theorem conAt_4 : conAt none = none := rfl
@[simp] theorem dataC_1 {ds : List D} : dataC (.lst ds) = .list ds := rfl
@[simp] theorem dataC_2 {kvs : List (D × D)} : dataC (.dic kvs) = .dict kvs := rfl
@[simp] theorem odAt_1 {kvs : List (D × D)} : odAt (some (some (.od kvs))) = some kvs := rfl
@[simp] theorem anyAt_3 {kvs : List (D × D)} : anyAt (some (some (.od kvs))) = some (.dict kvs) := rfl
@[simp] theorem retAt_3 {kvs : List (D × D)} : retAt (some (some (.od kvs))) = .rt (.dict kvs) := rfl
@[simp] theorem owAt_2 {d : D} : owAt (some (some (.sh d))) = none := rfl
@[simp] theorem shAt_1 {d : D} : shAt (some (some (.sh d))) = some d := rfl
@[simp] theorem anyAt_1 {d : D} : anyAt (some (some (.sh d))) = some d := rfl
@[simp] theorem anyAt_2 {ds : List D} : anyAt (some (some (.ow ds))) = some (.list ds) := rfl
@[simp] theorem retAt_1 {ds : List D} : retAt (some (some (.ow ds))) = .rtl ds := rfl
@[simp] theorem retAt_2 {d : D} : retAt (some (some (.sh d))) = .rt d := rfl
@[simp] theorem e_app {i : Nat} {m : M} {s : S} : mApp i m s = (owAt s[i]?).elim .no fun ds => (m s).elim .no fun d => if ds.length < 100000 then .nx (s.set i (some (.ow (ds ++ [d])))) else .no := by unfold mApp; generalize s[i]? = o; rcases o with _ | _ | _ | (_ | _) | _ <;> first | rfl | (cases m s <;> rfl)
@[simp] theorem e_setIx {i : Nat} {k m : M} {s : S} : mSetIx i k m s = (owAt s[i]?).elim .no fun ds => ((m s).bind fun d => (k s).bind fun kd => (intOf kd).bind fun n => (ixN ds.length n).map fun j => (j, d)).elim .no fun p => .nx (s.set i (some (.ow (ds.set p.1 p.2)))) := by unfold mSetIx; generalize s[i]? = o; rcases o with _ | _ | _ | (ds | _) | _ <;> first | rfl | (simp only [owAt_1, Option.elim_some]; generalize ((m s).bind fun d => (k s).bind fun kd => (intOf kd).bind fun n => (ixN ds.length n).map fun j => (j, d)) = w; cases w <;> rfl)
@[simp] theorem e_retO {i : Nat} {s : S} : mRetO i s = retAt s[i]? := by unfold mRetO; generalize s[i]? = o; rcases o with _ | _ | _ | (_ | _) | _ <;> rfl
@[simp] theorem e_var {i : Nat} {s : S} : mVar i s = shAt s[i]? := by unfold mVar; generalize s[i]? = o; rcases o with _ | _ | _ | (_ | _) | _ <;> rfl
@[simp] theorem e_varB {i : Nat} {s : S} : mVarB i s = anyAt s[i]? := by unfold mVarB; generalize s[i]? = o; rcases o with _ | _ | _ | (_ | _) | _ <;> rfl
@[simp] theorem e_share {i : Nat} {m : MS} {s : S} : mShare i m s = m (shareS i s) := rfl
@[simp] theorem e_shareS {i : Nat} {s : S} : shareS i s = (conAt s[i]?).elim s fun c => s.set i (some (.sh (dataC c))) := by unfold shareS; generalize s[i]? = o; rcases o with _ | _ | _ | (_ | _) | _ <;> rfl
@[simp] theorem e_revS {i : Nat} {s : S} : mRevS i s = (owAt s[i]?).elim .no fun ds => .nx (s.set i (some (.ow ds.reverse))) := by unfold mRevS; generalize s[i]? = o; rcases o with _ | _ | _ | (_ | _) | _ <;> rfl
@[simp] theorem e_retN {s : S} : mRetN s = .rt .none := rfl
@[simp] theorem e_C {d : D} {s : S} : mC d s = some d := rfl
@[simp] theorem e_L {m : ML} {s : S} : mL m s = (m s).map .list := rfl
@[simp] theorem e_2 {f : D → D → Option D} {a b : M} {s : S} : m2 f a b s = (a s).bind fun x => (b s).bind fun y => f x y := rfl
@[simp] theorem e_1 {f : D → Option D} {a : M} {s : S} : m1 f a s = (a s).bind f := rfl
@[simp] theorem e_T {m : M} {s : S} : mT m s = (m s).bind boolOf := rfl
@[simp] theorem b_of {b : Bool} : boolOf (.bool b) = some b := rfl
@[simp] theorem i_of {i : Int} : intOf (.int i) = some i := rfl
@[simp] theorem e_chain {f g : D → D → Option D} {a b c : M} {s : S} : mChain f g a b c s = (a s).bind fun x => (b s).bind fun y => (f x y).bind fun k => (boolOf k).bind fun t => if t = true then (c s).bind fun z => g y z else some (.bool false) := rfl
@[simp] theorem e_and {a b : MB} {s : S} : mAnd a b s = (a s).bind fun x => if x = true then b s else some false := rfl
@[simp] theorem e_or {a b : MB} {s : S} : mOr a b s = (a s).bind fun x => if x = true then some true else b s := rfl
@[simp] theorem e_not {a : MB} {s : S} : mNot a s = (a s).map (!·) := rfl
@[simp] theorem e_andV {a b : M} {s : S} : mAndV a b s = (a s).bind fun x => (boolOf x).bind fun t => if t = true then b s else some (.bool false) := rfl
@[simp] theorem e_orV {a b : M} {s : S} : mOrV a b s = (a s).bind fun x => (boolOf x).bind fun t => if t = true then some (.bool true) else b s := rfl
@[simp] theorem e_notV {a : M} {s : S} : mNotV a s = (a s).bind fun x => (boolOf x).map fun t => .bool (!t) := rfl
@[simp] theorem e_if {c : MB} {a b : M} {s : S} : mIf c a b s = (c s).bind fun x => if x = true then a s else b s := rfl
@[simp] theorem e_nil {s : S} : mNil s = some [] := rfl
@[simp] theorem e_cons {a : M} {r : ML} {s : S} : mCons a r s = (a s).bind fun x => (r s).map (x :: ·) := rfl
@[simp] theorem e_tup {r : ML} {s : S} : mTup r s = (r s).bind fun ds => if ds.length ≤ 100000 then some (.tuple ds) else none := rfl
@[simp] theorem e_lst {r : ML} {s : S} : mLst r s = (r s).bind fun ds => if ds.length ≤ 100000 then some ds else none := rfl
@[simp] theorem e_bi {f : List D → Option D} {as : ML} {s : S} : mBi f as s = (as s).bind f := rfl
@[simp] theorem e_isi {f : D → Bool} {m : M} {s : S} : mIsi f m s = (m s).bind fun d => if notDict d = true then some (.bool (f d)) else none := rfl
@[simp] theorem e_iSeq {m : M} {s : S} : iSeq m s = (m s).bind items := rfl
@[simp] theorem items_1 {ds : List D} : items (.list ds) = some ds := rfl
@[simp] theorem items_2 {ds : List D} : items (.tuple ds) = some ds := rfl
@[simp] theorem fList_1 {ds : List D} : fList (.list ds) = some ds := rfl
@[simp] theorem fTup_1 {ds : List D} : fTup (.tuple ds) = some ds := rfl
@[simp] theorem e_tupOf {m : M} {s : S} : mTupOf m s = (m s).bind fun d => (items d).map .tuple := rfl
@[simp] theorem e_rng1 {ml : ML} {s : S} {n : Int} (h : ml s = some [.int n]) (hl : lim n = true) : iRange1 ml s = some (rangeD 0 n.toNat) := by unfold iRange1; simp [h, hl]
@[simp] theorem e_rng2 {ml : ML} {s : S} {i j : Int} (h : ml s = some [.int i, .int j]) (hl : lim i = true) (hl2 : lim j = true) : iRange2 ml s = some (rangeD i (j - i).toNat) := by unfold iRange2; simp [h, hl, hl2]
theorem lim_in {n : Int} (h : -1000000 ≤ n ∧ n ≤ 1000000) : lim n = true := decide_eq_true h
@[simp] theorem e_gN {i : Nat} {d : D} {s : S} : gN i d s = some (s.set i (some (.sh d))) := rfl
@[simp] theorem e_gSeq {n : Nat} {g : MGs} {d : D} {s : S} : gSeq n g d s = (items d).bind fun ds => if ds.length = n then g ds s else none := rfl
@[simp] theorem e_gsNil {s : S} : gsNil [] s = some s := rfl
@[simp] theorem e_gsCons {g : MG} {r : MGs} {d : D} {ds : List D} {s : S} : gsCons g r (d :: ds) s = (g d s).bind fun s1 => r ds s1 := rfl
@[simp] theorem e_oNone {s : S} : oNone s = some none := rfl
@[simp] theorem e_oSome {m : M} {s : S} : oSome m s = (m s).bind fun d => (intOf d).map some := rfl
@[simp] theorem e_cutL {m : M} {lo hi : MO} {s : S} : mCutL m lo hi s = (m s).bind fun d => (fList d).bind fun ds => (lo s).bind fun l => (hi s).map fun u => cutD ds l u := rfl
@[simp] theorem e_cutT {m : M} {lo hi : MO} {s : S} : mCutT m lo hi s = (m s).bind fun d => (fTup d).bind fun ds => (lo s).bind fun l => (hi s).map fun u => .tuple (cutD ds l u) := rfl
@[simp] theorem e_revL {m : M} {s : S} : mRevL m s = (m s).bind fun d => (fList d).map List.reverse := rfl
@[simp] theorem e_cat {a b : M} {s : S} : mCat a b s = (a s).bind fun x => (fList x).bind fun xs => (b s).bind fun y => (fList y).bind fun ys => if xs.length + ys.length ≤ 100000 then some (xs ++ ys) else none := rfl
@[simp] theorem e_rep {a : ML} {b : M} {s : S} : mRep a b s = (a s).bind fun xs => (b s).bind fun y => (intOf y).bind fun k => if k ≤ 100000 ∧ xs.length * k.toNat ≤ 100000 ∧ -100000 ≤ k then some (List.replicate k.toNat xs).flatten else none := rfl
@[simp] theorem e_sorted {m : M} {s : S} : mSorted m s = (m s).bind fun d => (fList d).bind fSorted := rfl
def callV : Out → Option D
  | .nx _ => some .none
  | .rt d => DD.guard flatD d
  | .rtl es => if flatD.go es = true then some (.list es) else none
  | _ => none
@[simp] theorem e_callB {n : Nat} {f : MF} {as : ML} {s : S} : mCallB n f as s = (as s).bind fun ds => if ds.length = n then callV (f ds) else none := by
  unfold mCallB
  cases as s with
  | none => rfl
  | some ds =>
    simp only [Option.bind_some]
    split
    · cases f ds <;> rfl
    · rfl
theorem callV_rt {d : D} (h : flatD d = true) : callV (.rt d) = some d := if_pos h
@[simp] theorem e_callBL {n : Nat} {f : MF} {as : ML} {s : S} : mCallBL n f as s = (as s).bind fun ds => if ds.length = n then (lstOf (f ds)).bind okList else none := rfl
theorem lst_1 {ds : List D} : lstOf (.rtl ds) = some ds := rfl
theorem ok_1 {ds : List D} (h : flatD.go ds = true) : okList ds = some ds := if_pos h

/-! ### loops -/
def Turn (P : S → Prop) (Q : Out → Prop) (rest : MS) : Out → Prop
  | .nx s => P s
  | .ct s => P s
  | .bk s => Q (rest s)
  | .rt d => Q (.rt d)
  | .rtl ds => Q (.rtl ds)
  | .ex c fs => Q (.ex c fs)
  | .no => False
theorem mFor_wp {Q : Out → Prop} {g : MG} {body rest : MS} : ∀ {ds : List D} {s : S} (P : Nat → S → Prop), P 0 s →
    (∀ (i : Nat) (d : D) (s1 : S), ds[i]? = some d → P i s1 → ∃ s2, g d s1 = some s2 ∧ Turn (P (i + 1)) Q rest (body s2)) → (∀ s1, P ds.length s1 → Q (rest s1)) → Q (Out.andThen (mFor g body ds s) rest)
  | [], s, P, h0, hs, hd => hd s h0
  | d :: ds, s, P, h0, hs, hd => by
    obtain ⟨s2, h1, h2⟩ := hs 0 d s rfl h0
    rw [mFor_cons, h1]
    have go : ∀ s3, P 1 s3 → Q (Out.andThen (mFor g body ds s3) rest) := fun s3 h3 => mFor_wp (fun i s => P (i + 1) s) h3 (fun i d s1 hd' h => hs (i + 1) d s1 (by simpa using hd') h) (fun s1 h => hd s1 h)
    cases hb : body s2 with
    | nx s3 => rw [hb] at h2; simp only [hb]; exact go s3 h2
    | ct s3 => rw [hb] at h2; simp only [hb]; exact go s3 h2
    | bk s3 => rw [hb] at h2; simp only [hb]; exact h2
    | rt d => rw [hb] at h2; simp only [hb]; exact h2
    | rtl d => rw [hb] at h2; simp only [hb]; exact h2
    | ex c fs => rw [hb] at h2; simp only [hb]; exact h2
    | no => rw [hb] at h2; simp only [hb]; exact h2.elim
theorem for_seq {Q : Out → Prop} {mi : ML} {g : MG} {body rest : MS} {s : S} {ds : List D} (hmi : mi s = some ds) (P : Nat → S → Prop) (h0 : P 0 s)
    (hs : ∀ (i : Nat) (d : D) (s1 : S), ds[i]? = some d → P i s1 → ∃ s2, g d s1 = some s2 ∧ Turn (P (i + 1)) Q rest (body s2)) (hd : ∀ s1, P ds.length s1 → Q (rest s1)) : Q (Out.andThen (mForS mi g body s) rest) := by
  unfold mForS
  rw [hmi]
  exact mFor_wp P h0 hs hd
theorem for_last {Q : Out → Prop} {mi : ML} {g : MG} {body : MS} {s : S} {ds : List D} (hmi : mi s = some ds) (P : Nat → S → Prop) (h0 : P 0 s)
    (hs : ∀ (i : Nat) (d : D) (s1 : S), ds[i]? = some d → P i s1 → ∃ s2, g d s1 = some s2 ∧ Turn (P (i + 1)) Q .nx (body s2)) (hd : ∀ s1, P ds.length s1 → Q (.nx s1)) : Q (mForS mi g body s) := by
  have := for_seq (rest := .nx) hmi P h0 hs hd
  have e : Out.andThen (mForS mi g body s) .nx = mForS mi g body s := by cases mForS mi g body s <;> rfl
  rwa [e] at this
@[simp] theorem turn_nx {P : S → Prop} {Q : Out → Prop} {rest : MS} {s : S} : Turn P Q rest (.nx s) = P s := rfl
@[simp] theorem turn_ct {P : S → Prop} {Q : Out → Prop} {rest : MS} {s : S} : Turn P Q rest (.ct s) = P s := rfl
@[simp] theorem turn_bk {P : S → Prop} {Q : Out → Prop} {rest : MS} {s : S} : Turn P Q rest (.bk s) = Q (rest s) := rfl
@[simp] theorem turn_rt {P : S → Prop} {Q : Out → Prop} {rest : MS} {d : D} : Turn P Q rest (.rt d) = Q (.rt d) := rfl
@[simp] theorem turn_rtl {P : S → Prop} {Q : Out → Prop} {rest : MS} {d : List D} : Turn P Q rest (.rtl d) = Q (.rtl d) := rfl
theorem turn_ite {P : S → Prop} {Q : Out → Prop} {rest : MS} {p : Prop} [Decidable p] {x y : Out} (h1 : p → Turn P Q rest x) (h2 : ¬ p → Turn P Q rest y) : Turn P Q rest (if p then x else y) := by
  split
  · exact h1 (by assumption)
  · exact h2 (by assumption)
theorem range_get {lo : Int} {n i : Nat} {d : D} (h : (rangeD lo n)[i]? = some d) : i < n ∧ d = .int (lo + (i : Nat)) := by
  obtain ⟨hl, h⟩ := List.getElem?_eq_some_iff.mp h
  unfold rangeD at hl h
  rw [List.length_map, List.length_range] at hl
  refine ⟨hl, ?_⟩
  rw [← h, List.getElem_map, List.getElem_range]
theorem range_get0 {n i : Nat} {d : D} (h : (rangeD 0 n)[i]? = some d) : i < n ∧ d = .int (i : Nat) := by
  obtain ⟨h1, h2⟩ := range_get h
  exact ⟨h1, by rw [h2, Int.zero_add]⟩
theorem range_len {lo : Int} {n : Nat} : (rangeD lo n).length = n := by unfold rangeD; rw [List.length_map, List.length_range]

/-! ### plain operators at known data -/
@[simp] theorem f_add {i j : Int} : fAdd (.int i) (.int j) = some (.int (i + j)) := rfl
theorem f_addS {x y : Str} (h : x.length + y.length ≤ 100000) : fAdd (.str x) (.str y) = some (.str (x ++ y)) := by
  show (fOr fAddI fAddS) _ _ = _
  unfold fOr fAddI fInt fAddS
  simp [h]
@[simp] theorem f_sub {i j : Int} : fSub (.int i) (.int j) = some (.int (i - j)) := rfl
theorem f_mul {i j : Int} (h : -(2 ^ 64) < i ∧ i < 2 ^ 64) : fMul (.int i) (.int j) = some (.int (i * j)) := if_pos (.inl h)
theorem f_mulR {i j : Int} (h : -(2 ^ 64) < j ∧ j < 2 ^ 64) : fMul (.int i) (.int j) = some (.int (i * j)) := if_pos (.inr h)
theorem f_mulM {i n j : Int} (h : 0 < n ∧ n < 2 ^ 64) : fMul (.int (i % n)) (.int j) = some (.int (i % n * j)) := f_mul (by
  have h1 := Int.emod_nonneg i (show n ≠ 0 by omega)
  have h2 := Int.emod_lt_of_pos i h.1
  omega)
theorem f_div {i j : Int} (h : 0 < j ∧ j < 1073741824) : fDiv (.int i) (.int j) = some (.int (i / j)) := if_pos h
theorem f_mod {i j : Int} (h : 0 < j) : fMod (.int i) (.int j) = some (.int (i % j)) := if_pos h
theorem f_pow {i j : Int} (h : 0 ≤ j ∧ j ≤ 1000000 ∧ i.natAbs < 2 ^ 64) : fPow (.int i) (.int j) = some (.int (i ^ j.toNat)) := if_pos h
@[simp] theorem f_neg {i : Int} : fNeg (.int i) = some (.int (-i)) := rfl
@[simp] theorem f_lt {i j : Int} : fLt (.int i) (.int j) = some (.bool (decide (i < j))) := rfl
@[simp] theorem f_le {i j : Int} : fLe (.int i) (.int j) = some (.bool (decide (i ≤ j))) := rfl
@[simp] theorem f_gt {i j : Int} : fGt (.int i) (.int j) = some (.bool (decide (j < i))) := rfl
@[simp] theorem f_ge {i j : Int} : fGe (.int i) (.int j) = some (.bool (decide (j ≤ i))) := rfl
@[simp] theorem f_isN {d : D} : fIsN d .none = some (.bool (isNone d)) := rfl
@[simp] theorem f_notN {d : D} : fNotN d .none = some (.bool (!isNone d)) := rfl
@[simp] theorem plain_n : plainD .none = true := rfl
@[simp] theorem plain_b {b : Bool} : plainD (.bool b) = true := rfl
@[simp] theorem plain_i {i : Int} : plainD (.int i) = true := rfl
@[simp] theorem plain_s {x : Str} : plainD (.str x) = true := rfl
@[simp] theorem plain_t {ds : List D} : plainD (.tuple ds) = plainD.go ds := by simp only [plainD]
@[simp] theorem plain_l {ds : List D} : plainD (.list ds) = plainD.go ds := by simp only [plainD]
@[simp] theorem plain_0 : plainD.go [] = true := by simp only [plainD.go]
@[simp] theorem plain_c {d : D} {ds : List D} : plainD.go (d :: ds) = (plainD d && plainD.go ds) := by simp only [plainD.go]
@[simp] theorem plain_Is {l : List Int} : plainD.go (l.map PyData.int) = true := by
  induction l with
  | nil => simp
  | cons p l ih => simp [ih]
@[simp] theorem nd_n : notDict .none = true := rfl
@[simp] theorem nd_b {b : Bool} : notDict (.bool b) = true := rfl
@[simp] theorem nd_i {i : Int} : notDict (.int i) = true := rfl
@[simp] theorem nd_s {x : Str} : notDict (.str x) = true := rfl
@[simp] theorem nd_t {ds : List D} : notDict (.tuple ds) = true := rfl
@[simp] theorem nd_l {ds : List D} : notDict (.list ds) = true := rfl
@[simp] theorem f_eqI {i j : Int} : fEq (.int i) (.int j) = some (.bool (i == j)) := by unfold fEq; rw [if_pos (by simp [PyData.depth])]; simp [PyData.eqv]
@[simp] theorem f_neI {i j : Int} : fNe (.int i) (.int j) = some (.bool (!(i == j))) := by unfold fNe; rw [if_pos (by simp [PyData.depth])]; simp [PyData.eqv]
@[simp] theorem f_eqS {i j : Str} : fEq (.str i) (.str j) = some (.bool (i == j)) := by unfold fEq; rw [if_pos (by simp [PyData.depth])]; simp [PyData.eqv]
@[simp] theorem f_neS {i j : Str} : fNe (.str i) (.str j) = some (.bool (!(i == j))) := by unfold fNe; rw [if_pos (by simp [PyData.depth])]; simp [PyData.eqv]
@[simp] theorem f_eqB {i j : Bool} : fEq (.bool i) (.bool j) = some (.bool (i == j)) := by unfold fEq; rw [if_pos (by simp [PyData.depth])]; simp [PyData.eqv]
@[simp] theorem f_neB {i j : Bool} : fNe (.bool i) (.bool j) = some (.bool (!(i == j))) := by unfold fNe; rw [if_pos (by simp [PyData.depth])]; simp [PyData.eqv]
@[simp] theorem f_len {ds : List D} : fLen [.list ds] = some (.int ds.length) := rfl
@[simp] theorem f_lenT {ds : List D} : fLen [.tuple ds] = some (.int ds.length) := rfl
@[simp] theorem f_int {i : Int} : fInt1 [.int i] = some (.int i) := rfl
@[simp] theorem f_abs {i : Int} : fAbs [.int i] = some (.int (if i < 0 then -i else i)) := rfl
@[simp] theorem f_max {i j : Int} : fMax2 [.int i, .int j] = some (.int (if j > i then j else i)) := rfl
@[simp] theorem f_min {i j : Int} : fMin2 [.int i, .int j] = some (.int (if j < i then j else i)) := rfl
theorem atI_eq {α : Type} {xs : List α} {i : Int} : L2.atI xs i = if 0 ≤ i then xs[i.toNat]? else if -(xs.length : Int) ≤ i then xs[(i + xs.length).toNat]? else none := by
  unfold L2.atI ixN
  split
  · split
    · rfl
    · rename_i h1 h2
      rw [List.getElem?_eq_none (by omega)]; rfl
  · split <;> rfl
@[simp] theorem f_ixL {ds : List D} {i : Int} : fIx (.list ds) (.int i) = L2.atI ds i := rfl
@[simp] theorem f_ixT {ds : List D} {i : Int} : fIx (.tuple ds) (.int i) = L2.atI ds i := rfl
theorem atI_nat' {α : Type} {xs : List α} {i : Int} {x : α} (h0 : 0 ≤ i) (h : xs[i.toNat]? = some x) : L2.atI xs i = some x := by rw [atI_eq, if_pos h0, h]
theorem atI_neg {α : Type} {xs : List α} {i : Int} {x : α} (h0 : i < 0) (h1 : -(xs.length : Int) ≤ i) (h : xs[(i + xs.length).toNat]? = some x) : L2.atI xs i = some x := by rw [atI_eq, if_neg (by omega), if_pos h1, h]

/-! ### corners and paths -/
abbrev Pt := Int × Int
def eC (p : Pt) : D := .tuple [.int p.1, .int p.2]
def eP (l : List Pt) : D := .tuple (l.map eC)
theorem eC_depth (p : Pt) : (eC p).depth = 1 := by simp [eC, PyData.depth, PyData.depthAll]
theorem eCs_depth (l : List Pt) : PyData.depthAll (l.map eC) ≤ 1 := by
  induction l with
  | nil => simp [PyData.depthAll]
  | cons p l ih => simp only [List.map_cons, PyData.depthAll, eC_depth]; omega
theorem eP_depth (l : List Pt) : (eP l).depth ≤ 2 := by
  have := eCs_depth l
  simp only [eP, PyData.depth]; omega
@[simp] theorem plain_C {p : Pt} : plainD (eC p) = true := by simp [eC]
@[simp] theorem plain_Cs {l : List Pt} : plainD.go (l.map eC) = true := by
  induction l with
  | nil => simp
  | cons p l ih => simp [ih]
@[simp] theorem plain_P {l : List Pt} : plainD (eP l) = true := by simp [eP]
@[simp] theorem nd_C {p : Pt} : notDict (eC p) = true := rfl
@[simp] theorem nd_P {l : List Pt} : notDict (eP l) = true := rfl
theorem eC_eqv (p q : Pt) : PyData.eqv (eC p) (eC q) = decide (p = q) := by
  obtain ⟨a, b⟩ := p
  obtain ⟨c, d⟩ := q
  simp only [eC, PyData.eqv, PyData.eqvAll, Bool.and_true]
  by_cases h1 : a = c <;> by_cases h2 : b = d <;> simp [h1, h2]
theorem eCs_eqv : ∀ l m : List Pt, PyData.eqvAll (l.map eC) (m.map eC) = decide (l = m)
  | [], [] => by simp [PyData.eqvAll]
  | [], _ :: _ => by simp [PyData.eqvAll]
  | _ :: _, [] => by simp [PyData.eqvAll]
  | p :: l, q :: m => by
    simp only [List.map_cons, PyData.eqvAll, eC_eqv, eCs_eqv l m]
    by_cases h1 : p = q <;> by_cases h2 : l = m <;> simp [h1, h2]
theorem eP_eqv (l m : List Pt) : PyData.eqv (eP l) (eP m) = decide (l = m) := by simp only [eP, PyData.eqv, eCs_eqv]
@[simp] theorem f_eqC {p q : Pt} : fEq (eC p) (eC q) = some (.bool (decide (p = q))) := by unfold fEq; rw [if_pos (by simp [eC_depth]), eC_eqv]
@[simp] theorem f_neC {p q : Pt} : fNe (eC p) (eC q) = some (.bool (!decide (p = q))) := by unfold fNe; rw [if_pos (by simp [eC_depth]), eC_eqv]
@[simp] theorem f_inC {n : Bool} {p : Pt} {l : List Pt} : fIn n (eC p) (eP l) = some (.bool (if n then !decide (p ∈ l) else decide (p ∈ l))) := by
  have e : ((l.map eC).any fun z => PyData.eqv z (eC p)) = decide (p ∈ l) := by
    rw [List.any_map]
    induction l with
    | nil => simp
    | cons q l ih =>
      rw [List.any_cons, ih]
      simp only [Function.comp, eC_eqv]
      by_cases h1 : q = p
      · subst h1; simp
      · have : ¬ p = q := fun h => h1 h.symm
        simp [h1, this]
  unfold fIn eP
  simp only
  rw [if_pos ⟨by have := eCs_depth l; omega, by simp, by simp⟩, e]
@[simp] theorem flat_C (p : Pt) : flatD (eC p) = true := by simp [eC, flatD, flatD.go]
@[simp] theorem flat_Cs (l : List Pt) : flatD.go (l.map eC) = true := by
  induction l with
  | nil => rfl
  | cons p l ih => simp only [List.map_cons, flatD.go, flat_C, ih, Bool.and_self]
@[simp] theorem flat_P (l : List Pt) : flatD (eP l) = true := by simp only [eP, flatD]; exact flat_Cs l
@[simp] theorem flat_I (l : List Int) : flatD.go (l.map .int) = true := by
  induction l with
  | nil => rfl
  | cons p l ih => simp only [List.map_cons, flatD.go, flatD, ih, Bool.and_self]
def ptLt (p q : Pt) : Bool := HT.lexLt [p.1, p.2] [q.1, q.2]
@[simp] theorem f_ltC {p q : Pt} : fLt (eC p) (eC q) = some (.bool (ptLt p q)) := rfl
@[simp] theorem eC_x {p : Pt} : fIx (eC p) (.int 0) = some (.int p.1) := rfl
@[simp] theorem eC_y {p : Pt} : fIx (eC p) (.int 1) = some (.int p.2) := rfl
@[simp] theorem isT_C {p : Pt} : isTuple (eC p) = true := rfl
@[simp] theorem len_C {p : Pt} : fLen [eC p] = some (.int 2) := rfl
theorem mk_C {a b : Int} : PyData.tuple [.int a, .int b] = eC (a, b) := rfl
@[simp] theorem items_P {l : List Pt} : items (eP l) = some (l.map eC) := rfl
@[simp] theorem isN_P {l : List Pt} : isNone (eP l) = false := rfl
@[simp] theorem isN_C {p : Pt} : isNone (eC p) = false := rfl
@[simp] theorem len_P {l : List Pt} : fLen [eP l] = some (.int l.length) := by simp [eP, fLen]
@[simp] theorem ix_P {l : List Pt} {i : Int} : fIx (eP l) (.int i) = (L2.atI l i).map eC := by
  show L2.atI (l.map eC) i = _
  rw [atI_eq, atI_eq]
  simp only [List.length_map, List.getElem?_map]
  split
  · rfl
  · split <;> rfl
theorem ixL_C {l : List Pt} {i : Int} : L2.atI (l.map eC) i = (L2.atI l i).map eC := ix_P
theorem mk_P {l : List Pt} : PyData.tuple (l.map eC) = eP l := rfl
/-- numbers by a function -/
def dl (f : Nat → Int) (n : Nat) : List D := (List.range n).map fun i => .int (f i)
theorem atI_dl {f : Nat → Int} {n : Nat} {k : Int} (h : 0 ≤ k ∧ k < n) : L2.atI (dl f n) k = some (.int (f k.toNat)) := by
  have hk : k.toNat < n := by omega
  exact atI_nat' h.1 (by unfold dl; simp [hk])
theorem dl_of (ds : List Int) : ds.map PyData.int = dl (fun i => ds.getD i 0) ds.length := by
  apply List.ext_getElem?
  intro i
  unfold dl
  by_cases h : i < ds.length
  · simp [h]
  · rw [List.getElem?_eq_none (by simpa using h), List.getElem?_eq_none (by simpa using h)]
@[simp] theorem dl_flat {f : Nat → Int} {n : Nat} : flatD.go (dl f n) = true := by
  unfold dl
  rw [show (fun i => PyData.int (f i)) = PyData.int ∘ f from rfl, ← List.map_map]
  exact flat_I _
@[simp] theorem dl_len {f : Nat → Int} {n : Nat} : (dl f n).length = n := by simp [dl]

@[simp] theorem callV_C {p : Pt} : callV (.rt (eC p)) = some (eC p) := callV_rt (flat_C p)
@[simp] theorem callV_P {l : List Pt} : callV (.rt (eP l)) = some (eP l) := callV_rt (flat_P l)
@[simp] theorem callV_b {b : Bool} : callV (.rt (.bool b)) = some (.bool b) := rfl
@[simp] theorem callV_i {i : Int} : callV (.rt (.int i)) = some (.int i) := rfl
@[simp] theorem callV_s {x : Str} : callV (.rt (.str x)) = some (.str x) := rfl
@[simp] theorem callV_n : callV (.rt .none) = some .none := rfl
theorem get_map {α : Type} {f : α → D} {l : List α} {i : Nat} {d : D} (h : (l.map f)[i]? = some d) : ∃ x, l[i]? = some x ∧ d = f x := by
  rw [List.getElem?_map] at h
  cases e : l[i]? with
  | none => rw [e] at h; cases h
  | some x => rw [e] at h; cases h; exact ⟨x, rfl, rfl⟩
theorem get_map' {α : Type} {f : α → D} {l : List α} {i : Nat} {x : α} (h : l[i]? = some x) : (l.map f)[i]? = some (f x) := by rw [List.getElem?_map, h]; rfl
/-! ### comprehensions, short loops, sorted numbers -/
theorem comp_of {α : Type} {g : MG} {mt : MB} {me : M} {s : S} {e : α → D} {p : α → Bool} {f : α → D} : ∀ {xs : List α}, (∀ x ∈ xs, ∃ s1, g (e x) s = some s1 ∧ mt s1 = some (p x) ∧ (p x = true → me s1 = some (f x))) → mComp g mt me s (xs.map e) = some ((xs.filter p).map f)
  | [], _ => rfl
  | x :: xs, h => by
    obtain ⟨s1, h1, h2, h3⟩ := h x (List.mem_cons_self ..)
    have ih := comp_of (xs := xs) fun y hy => h y (List.mem_cons_of_mem _ hy)
    rw [List.map_cons, mComp_cons, h1, Option.bind_some, h2, Option.bind_some, List.filter_cons]
    by_cases hp : p x = true
    · simp [hp, h3 hp, ih]
    · simp [hp, ih]
theorem lc_of {α : Type} {mi : ML} {g : MG} {mt : MB} {me : M} {vs : List Nat} {s : S} {e : α → D} {p : α → Bool} {f : α → D} {xs : List α} (hu : unowned s vs = true) (hmi : mi s = some (xs.map e)) (hl : xs.length ≤ 50000)
    (h : ∀ x ∈ xs, ∃ s1, g (e x) (wipeS s vs) = some s1 ∧ mt s1 = some (p x) ∧ (p x = true → me s1 = some (f x))) : mLc mi g mt me vs s = some ((xs.filter p).map f) := by
  unfold mLc
  rw [if_pos hu, hmi, Option.bind_some, if_pos (by simpa using hl)]
  exact comp_of h
theorem rangeD_map {n : Nat} : rangeD 0 n = (List.range n).map fun i : Nat => .int (i : Int) := by
  unfold rangeD
  simp
def Out.loop (o : Out) (k : MS) : Out := match o with
  | .nx s => k s
  | .ct s => k s
  | .bk s => .nx s
  | .rt d => .rt d
  | .rtl ds => .rtl ds
  | .ex c fs => .ex c fs
  | .no => .no
@[simp] theorem loop_nx {s : S} {b : MS} : Out.loop (.nx s) b = b s := rfl
@[simp] theorem loop_ct {s : S} {b : MS} : Out.loop (.ct s) b = b s := rfl
@[simp] theorem loop_bk {s : S} {b : MS} : Out.loop (.bk s) b = .nx s := rfl
@[simp] theorem loop_rt {d : D} {b : MS} : Out.loop (.rt d) b = .rt d := rfl
@[simp] theorem loop_rtl {d : List D} {b : MS} : Out.loop (.rtl d) b = .rtl d := rfl
@[simp] theorem loop_no {b : MS} : Out.loop .no b = .no := rfl
theorem e_forS {mi : ML} {g : MG} {body : MS} {s : S} : mForS mi g body s = (mi s).elim .no fun ds => mFor g body ds s := by unfold mForS; cases mi s <;> rfl
theorem e_for0 {g : MG} {body : MS} {s : S} : mFor g body [] s = .nx s := rfl
theorem e_for1 {g : MG} {body : MS} {d : D} {ds : List D} {s : S} : mFor g body (d :: ds) s = (g d s).elim .no fun s1 => Out.loop (body s1) (mFor g body ds) := by
  rw [mFor_cons]
  cases g d s with
  | none => rfl
  | some s1 =>
    show _ = Out.loop (body s1) (mFor g body ds)
    generalize hb : body s1 = o
    simp only [hb]
    cases o <;> rfl
theorem dataLe_ints (p q : Int) : W.dataLe false id (.int p) (.int q) = decide (p ≤ q) :=
  congrFun (congrFun (W.dataLe_int (fun x : Int => x)) p) q
theorem sorted_ints {xs : List Int} (h : xs.length ≤ 100000) : fSorted (xs.map .int) = some ((xs.mergeSort fun a b => decide (a ≤ b)).map .int) := by
  have a1 : alikeAllB (xs.map .int) = true := by
    unfold alikeAllB
    simp [List.all_map, W.alike]
  have a2 : sortB (xs.map .int) = true := by
    unfold sortB
    simp [List.all_map]
  have a3 : PyData.depthAll (xs.map .int) ≤ 60 := by
    have : ∀ ys : List Int, PyData.depthAll (ys.map .int) = 0 := fun ys => by
      induction ys with
      | nil => rfl
      | cons y ys ih => simp [PyData.depthAll, PyData.depth, ih]
    rw [this]; decide
  unfold fSorted sortD
  rw [if_pos ⟨a1, a2, a3, by simpa using h⟩]
  congr 1
  exact (List.map_mergeSort fun a _ b _ => (dataLe_ints a b).symm).symm
theorem sorted_two (p q : Int) : fSorted [.int p, .int q] = some (if p ≤ q then [.int p, .int q] else [.int q, .int p]) := by
  have := sorted_ints (xs := [p, q]) (by simp)
  simp only [List.map_cons, List.map_nil] at this
  rw [this]
  by_cases h : p ≤ q <;> simp [List.mergeSort, List.MergeSort.Internal.splitInTwo, h, List.merge]
theorem ix_unique {l : List Pt} {x : Pt} {i j : Nat} (hi : l[i]? = some x) (hi2 : ∀ k, k < i → l[k]? ≠ some x) (hj : l[j]? = some x) (hj2 : ∀ k, k < j → l[k]? ≠ some x) : i = j := by
  rcases Nat.lt_trichotomy i j with h | h | h
  · exact (hj2 i h hi).elim
  · exact h
  · exact (hi2 j h hj).elim
/-- the first place of a corner -/
def ix (x : Pt) (l : List Pt) : Nat := l.idxOf x
theorem idxOf_C {l : List Pt} {x : Pt} (h : x ∈ l) : idxOf (eC x) (l.map eC) = some (ix x l) := by
  unfold ix
  induction l with
  | nil => cases h
  | cons y l ih =>
    rw [List.map_cons, idxOf, eC_eqv, List.idxOf_cons]
    by_cases e : y = x
    · simp [e]
    · have : x ∈ l := by
        rcases List.mem_cons.mp h with h | h
        · exact (e h.symm).elim
        · exact h
      simp [beq_false_of_ne e, e, ih this]
theorem f_indexC {l : List Pt} {x : Pt} (h : x ∈ l) : fIndex (eP l) (eC x) = some (.int (ix x l)) := by
  unfold fIndex eP
  simp only
  rw [if_pos ⟨by have := eCs_depth l; omega, by simp, by simp⟩, idxOf_C h]
  rfl
theorem filter_head {n : Nat} {p : Nat → Bool} {j : Nat} (hj : j < n) (hp : p j = true) (hm : ∀ i, i < j → p i = false) : ∃ r, (List.range n).filter p = j :: r := by
  induction n with
  | zero => omega
  | succ n ih =>
    rw [List.range_succ, List.filter_append]
    by_cases h : j < n
    · obtain ⟨r, e⟩ := ih h
      exact ⟨r ++ _, by rw [e]; rfl⟩
    · have : j = n := by omega
      subst this
      refine ⟨[], ?_⟩
      have e : (List.range j).filter p = [] := by
        rw [List.filter_eq_nil_iff]
        intro i hi
        rw [hm i (List.mem_range.mp hi)]; decide
      rw [e]; simp [hp]
/-! ### sets of corners -/
def kC (p : Pt) : List Int := [p.1, p.2]
@[simp] theorem keyC {p : Pt} : keyD (eC p) = some (kC p) := rfl
theorem keysC : ∀ l : List Pt, keysD (l.map eC) = some (l.map kC)
  | [] => rfl
  | p :: l => by simp [keysD, keysC l]
theorem fKeysP {l : List Pt} (h : l.length < 64) : fKeys (eP l) = some (l.map kC) := by
  unfold fKeys
  simp [h, keysC]
@[simp] theorem kC_mem {p : Pt} {l : List Pt} : (kC p ∈ l.map kC) ↔ p ∈ l := by
  constructor
  · intro h
    obtain ⟨q, hq, e⟩ := List.mem_map.mp h
    obtain ⟨a, b⟩ := p
    obtain ⟨c, d⟩ := q
    simp [kC] at e
    obtain ⟨rfl, rfl⟩ := e
    exact hq
  · exact fun h => List.mem_map.mpr ⟨p, h, rfl⟩
end DD
namespace Toy
open PySem L2 DD
def topS (i : Nat) : Stmt := PySem.Challenge.pw_cornerplane_k16_steep_slots_and_ruler.main.body.getD i (.Pass ⟨0, 0, 0, 0⟩)
variable [LTb]
/-- the built-in names that the text uses -/
structure Top (mg : Str → Option Value) : Prop where
  n_bool : mg "bool" = none
  n_enumerate : mg "enumerate" = none
  n_int : mg "int" = none
  n_isinstance : mg "isinstance" = none
  n_len : mg "len" = none
  n_list : mg "list" = none
  n_max : mg "max" = none
  n_range : mg "range" = none
  n_s : mg "s" = none
  n_sorted : mg "sorted" = none
  n_tuple : mg "tuple" = none
abbrev s__mirrored : Stmt := topS 4
theorem sc__mirrored : FnScope ["number", "digits", "mirrored", "_"] ["number", "digits"] (defScope s__mirrored) := ⟨rfl, rfl, rfl, by decide +kernel, rfl, by decide +kernel, by decide +kernel⟩
def b__mirrored : MS :=
  (mSeq (mAsg 2 (mC (.int 0)))
  (mSeq (mForS (iRange1 (mCons (mVarB 1) mNil)) (gN 3)
  (mSeq (mAsg 2 (m2 fAdd (m2 fMul (mC (.int 2)) (mVarB 2)) (m2 fMod (mVarB 0) (mC (.int 2)))))
  (mAsg 0 (m2 fDiv (mVarB 0) (mC (.int 2))))))
  (mRetO 2)))
def m__mirrored : MF := mFn 4 b__mirrored
theorem ok__mirrored {P : Program} {w : World} {K : Fg} {mg : Str → Option Value} {base : Heap} {f : Addr} {fd : FuncData} (F : L2.Fun K "_mirrored" "_mirrored" s__mirrored f fd) (T : Top mg)  : FnOk P w K mg base CX0 1 f fd ["number", "digits"] (spD K C0 2 m__mirrored) :=
  fn_data (k := 0) F sc__mirrored rfl (by decide) fun cdv A outer s H E hr =>
    (ss_cons (s_asg (ps_set (i := 2) sc__mirrored.nd rfl (.inl rfl) x_int))
    (ss_cons (s_for PassesOwn.never rfl (i_range1 rfl T.n_range (ab_cons (b_pv (pv 1)) ab_nil)) (g_name (pg_name (i := 3) sc__mirrored.nd rfl (.inl rfl)))
    (ss_cons (s_asg (ps_set (i := 2) sc__mirrored.nd rfl (.inl rfl) (x_add (x_b (x_mul (x_b x_int) (b_pv (pv 2)))) (x_b (x_mod (b_pv (pv 0)) (x_b x_int))))))
    (ss_one (s_asg (ps_set (i := 0) sc__mirrored.nd rfl (.inl rfl) (x_fdiv (b_pv (pv 0)) (x_b x_int)))))))
    (ss_one (s_retO (pv 2)))))
abbrev s__law_cell : Stmt := topS 6
theorem sc__law_cell : FnScope ["_law_script", "_law_k"] ["_law_script", "_law_k"] (defScope s__law_cell) := ⟨rfl, rfl, rfl, by decide +kernel, rfl, by decide +kernel, by decide +kernel⟩
def b__law_cell : MS :=
  (mSeq (mIfS (mT (m2 fLt (mVarB 1) (mBi fLen (mCons (mVarB 0) mNil))))
  (mRet (mBi fInt1 (mCons (m2 fIx (mVarB 0) (mVarB 1)) mNil)))
  mNext)
  (mRet (mC (.int 0))))
def m__law_cell : MF := mFn 2 b__law_cell
theorem ok__law_cell {P : Program} {w : World} {K : Fg} {mg : Str → Option Value} {base : Heap} {f : Addr} {fd : FuncData} (F : L2.Fun K "_law_cell" "_law_cell" s__law_cell f fd) (T : Top mg)  : FnOk P w K mg base CX0 1 f fd ["_law_script", "_law_k"] (spD K C0 2 m__law_cell) :=
  fn_data (k := 0) F sc__law_cell rfl (by decide) fun cdv A outer s H E hr =>
    (ss_cons (s_if (t_lt rfl hr (b_pv (pv 1)) (x_b (x_len rfl rfl T.n_len (ab_cons (b_pv (pv 0)) ab_nil))))
    (ss_one (s_ret (x_int1 rfl T.n_int (ab_cons (x_b (x_ix rfl (b_pv (pv 0)) (b_pv (pv 1)))) ab_nil))))
    ss_nil)
    (ss_one (s_ret x_int)))
abbrev s__law_draws : Stmt := topS 7
theorem sc__law_draws : FnScope ["_law_cell_here", "_law_sizes", "_law_drawn", "_law_rest", "_law_digits", "_law_k", "_law_size", "_law_mixed"] ["_law_cell_here", "_law_sizes"] (defScope s__law_draws) := ⟨rfl, rfl, rfl, by decide +kernel, rfl, by decide +kernel, by decide +kernel⟩
def b__law_draws : MS :=
  (mSeq (mAsgL 2 (mLst mNil))
  (mSeq (mAsg 3 (mBi fInt1 (mCons (mVarB 0) mNil)))
  (mSeq (mAsg 4 (m2 fGe (mVarB 3) (m2 fPow (mC (.int 10)) (mC (.int 18)))))
  (mSeq (mForS (iRange1 (mCons (mBi fLen (mCons (mVarB 1) mNil)) mNil)) (gN 5)
  (mSeq (mAsg 6 (m2 fIx (mVarB 1) (mVarB 5)))
  (mIfS (mAnd (mT (mVar 4)) (mT (m2 fGt (mVarB 3) (mC (.int 0)))))
  (mSeq (mApp 2 (m2 fMod (mBi fInt1 (mCons (mVarB 3) mNil)) (mVarB 6)))
  (mAsg 3 (m2 fDiv (mVarB 3) (mVarB 6))))
  (mSeq (mAsg 7 (m2 fMod (mBi fInt1 (mCons (m2 fAdd (m2 fAdd (mVarB 0) (m2 fMul (mC (.int 7919)) (mVarB 5))) (mC (.int 13))) mNil)) (mC (.int 2147483647))))
  (mSeq (mAsg 7 (m2 fMod (mBi fInt1 (mCons (m2 fMul (mVarB 7) (m2 fAdd (mVarB 7) (mC (.int 48271)))) mNil)) (mC (.int 2147483629))))
  (mSeq (mAsg 7 (m2 fMod (mBi fInt1 (mCons (m2 fAdd (m2 fMul (mVarB 7) (m2 fAdd (mVarB 7) (mC (.int 69621)))) (m2 fMul (mC (.int 31)) (mVarB 5))) mNil)) (mC (.int 2147483647))))
  (mApp 2 (m2 fMod (mBi fInt1 (mCons (m2 fDiv (mVarB 7) (mC (.int 9))) mNil)) (mVarB 6)))))))))
  (mRetO 2)))))
def m__law_draws : MF := mFn 8 b__law_draws
theorem ok__law_draws {P : Program} {w : World} {K : Fg} {mg : Str → Option Value} {base : Heap} {f : Addr} {fd : FuncData} (F : L2.Fun K "_law_draws" "_law_draws" s__law_draws f fd) (T : Top mg)  : FnOk P w K mg base CX0 1 f fd ["_law_cell_here", "_law_sizes"] (spD K C0 2 m__law_draws) :=
  fn_data (k := 0) F sc__law_draws rfl (by decide) fun cdv A outer s H E hr =>
    (ss_cons (s_asgL (ps_set (i := 2) sc__law_draws.nd rfl (.inl rfl) (l_lst a_nil)))
    (ss_cons (s_asg (ps_set (i := 3) sc__law_draws.nd rfl (.inl rfl) (x_int1 rfl T.n_int (ab_cons (b_pv (pv 0)) ab_nil))))
    (ss_cons (s_asg (ps_set (i := 4) sc__law_draws.nd rfl (.inl rfl) (x_ge (b_pv (pv 3)) (x_b (x_pow (x_b x_int) (x_b x_int))))))
    (ss_cons (s_for PassesOwn.never rfl (i_range1 rfl T.n_range (ab_cons (x_b (x_len rfl rfl T.n_len (ab_cons (b_pv (pv 1)) ab_nil))) ab_nil)) (g_name (pg_name (i := 5) sc__law_draws.nd rfl (.inl rfl)))
    (ss_cons (s_asg (ps_set (i := 6) sc__law_draws.nd rfl (.inl rfl) (x_ix rfl (b_pv (pv 1)) (b_pv (pv 5)))))
    (ss_one (s_if (t_w (w_and (t_val (x_pv (pv 4))) (w_and1 (t_gt (b_pv (pv 3)) (x_b x_int)))))
    (ss_cons (s_appN rfl (pv 2) (x_mod (x_b (x_int1 rfl T.n_int (ab_cons (b_pv (pv 3)) ab_nil))) (b_pv (pv 6))))
    (ss_one (s_asg (ps_set (i := 3) sc__law_draws.nd rfl (.inl rfl) (x_fdiv (b_pv (pv 3)) (b_pv (pv 6)))))))
    (ss_cons (s_asg (ps_set (i := 7) sc__law_draws.nd rfl (.inl rfl) (x_mod (x_b (x_int1 rfl T.n_int (ab_cons (x_b (x_add (x_b (x_add (b_pv (pv 0)) (x_b (x_mul (x_b x_int) (b_pv (pv 5)))))) (x_b x_int))) ab_nil))) (x_b x_int))))
    (ss_cons (s_asg (ps_set (i := 7) sc__law_draws.nd rfl (.inl rfl) (x_mod (x_b (x_int1 rfl T.n_int (ab_cons (x_b (x_mul (b_pv (pv 7)) (x_b (x_add (b_pv (pv 7)) (x_b x_int))))) ab_nil))) (x_b x_int))))
    (ss_cons (s_asg (ps_set (i := 7) sc__law_draws.nd rfl (.inl rfl) (x_mod (x_b (x_int1 rfl T.n_int (ab_cons (x_b (x_add (x_b (x_mul (b_pv (pv 7)) (x_b (x_add (b_pv (pv 7)) (x_b x_int))))) (x_b (x_mul (x_b x_int) (b_pv (pv 5)))))) ab_nil))) (x_b x_int))))
    (ss_one (s_appN rfl (pv 2) (x_mod (x_b (x_int1 rfl T.n_int (ab_cons (x_b (x_fdiv (b_pv (pv 7)) (x_b x_int))) ab_nil))) (b_pv (pv 6))))))))))))
    (ss_one (s_retO (pv 2)))))))
abbrev s__law_is_integer : Stmt := topS 9
theorem sc__law_is_integer : FnScope ["_law_told"] ["_law_told"] (defScope s__law_is_integer) := ⟨rfl, rfl, rfl, by decide +kernel, rfl, by decide +kernel, by decide +kernel⟩
def b__law_is_integer : MS :=
  (mRet (mAndV (mIsi isInt (mVarB 0)) (mNotV (mIsi isBool (mVarB 0)))))
def m__law_is_integer : MF := mFn 1 b__law_is_integer
theorem ok__law_is_integer {P : Program} {w : World} {K : Fg} {mg : Str → Option Value} {base : Heap} {f : Addr} {fd : FuncData} (F : L2.Fun K "_law_is_integer" "_law_is_integer" s__law_is_integer f fd) (T : Top mg)  : FnOk P w K mg base CX0 1 f fd ["_law_told"] (spD K C0 1 m__law_is_integer) :=
  fn_data (k := 0) F sc__law_is_integer rfl (by decide) fun cdv A outer s H E hr =>
    (ss_one (s_ret (x_and (x_isi tab_int rfl rfl T.n_isinstance (b_pv (pv 0)) (ty_int rfl T.n_int)) (x_one (x_not (x_isi tab_bool rfl rfl T.n_isinstance (b_pv (pv 0)) (ty_bool rfl T.n_bool)))))))
abbrev s__law_highest : Stmt := topS 11
theorem sc__law_highest : FnScope ["_law_ranking_here", "_law_slot", "_law_steps", "_law_steep", "_law_found", "_law_s", "_law_higher", "_law_t"] ["_law_ranking_here", "_law_slot", "_law_steps", "_law_steep"] (defScope s__law_highest) := ⟨rfl, rfl, rfl, by decide +kernel, rfl, by decide +kernel, by decide +kernel⟩
def b__law_highest : MS :=
  (mSeq (mAsgL 4 (mLst mNil))
  (mSeq (mForS (iRange2 (mCons (mVarB 1) (mCons (m2 fAdd (mVarB 1) (mVarB 2)) mNil))) (gN 5)
  (mSeq (mAsg 6 (mBi fLen (mCons (mL (mLc (iRange2 (mCons (mVarB 1) (mCons (m2 fAdd (mVarB 1) (mVarB 2)) mNil))) (gN 7) (mT (m2 fGt (m2 fIx (mVarB 0) (mVarB 7)) (m2 fIx (mVarB 0) (mVarB 5)))) (mVar 7) [7])) mNil)))
  (mIfS (mT (m2 fLt (mVarB 6) (mVarB 3)))
  (mApp 4 (mVar 5))
  mNext)))
  (mRetO 4)))
def m__law_highest : MF := mFn 8 b__law_highest
theorem ok__law_highest {P : Program} {w : World} {K : Fg} {mg : Str → Option Value} {base : Heap} {f : Addr} {fd : FuncData} (F : L2.Fun K "_law_highest" "_law_highest" s__law_highest f fd) (T : Top mg)  : FnOk P w K mg base CX0 1 f fd ["_law_ranking_here", "_law_slot", "_law_steps", "_law_steep"] (spD K C0 4 m__law_highest) :=
  fn_data (k := 0) F sc__law_highest rfl (by decide) fun cdv A outer s H E hr =>
    (ss_cons (s_asgL (ps_set (i := 4) sc__law_highest.nd rfl (.inl rfl) (l_lst a_nil)))
    (ss_cons (s_for PassesOwn.never rfl (i_range2 rfl T.n_range (ab_cons (b_pv (pv 1)) (ab_cons (x_b (x_add (b_pv (pv 1)) (b_pv (pv 2)))) ab_nil))) (g_name (pg_name (i := 5) sc__law_highest.nd rfl (.inr rfl)))
    (ss_cons (s_asg (ps_set (i := 6) sc__law_highest.nd rfl (.inl rfl) (x_len rfl rfl T.n_len (ab_cons (l_b (l_lc (own := [("_law_t", 7)]) rfl sc__law_highest.nd (i_range2 rfl T.n_range (ab_cons (b_pv (pv 1)) (ab_cons (x_b (x_add (b_pv (pv 1)) (b_pv (pv 2)))) ab_nil))) (blkOk_by (N := ["_law_ranking_here", "_law_slot", "_law_steps", "_law_steep", "_law_found", "_law_s", "_law_higher", "_law_t"]) (sc := defScope s__law_highest) (by decide +kernel)) (fun _ _ _ _ _ => (g_name (pg_name (i := 7) sc__law_highest.nd rfl (.inl rfl)))) (fun _ _ _ _ _ => (ts_one (t_gt (x_b (x_ix rfl (b_pv (pv 0)) (b_pv (pv 7)))) (x_b (x_ix rfl (b_pv (pv 0)) (b_pv (pv 5))))))) (fun _ _ _ _ _ => (x_pv (pv 7))) (by decide))) ab_nil))))
    (ss_one (s_if (t_lt rfl hr (b_pv (pv 6)) (b_pv (pv 3)))
    (ss_one (s_appN rfl (pv 4) (x_pv (pv 5))))
    ss_nil))))
    (ss_one (s_retO (pv 4)))))
abbrev s__law_ruler : Stmt := topS 12
theorem sc__law_ruler : FnScope ["_law_size", "_law_power", "_law_k", "_law_mirrored", "_law_s", "_law_rest", "_law_number", "_law_weight", "_law_slot", "_law_other"] ["_law_size"] (defScope s__law_ruler) := ⟨rfl, rfl, rfl, by decide +kernel, rfl, by decide +kernel, by decide +kernel⟩
def b__law_ruler : MS :=
  (mSeq (mAsg 1 (mC (.int 1)))
  (mSeq (mForS (iRange1 (mCons (mC (.int 8)) mNil)) (gN 2)
  (mIfS (mT (m2 fLt (mVarB 1) (mVarB 0)))
  (mAsg 1 (m2 fMul (mVarB 1) (mC (.int 2))))
  mNext))
  (mSeq (mAsgL 3 (mLst mNil))
  (mSeq (mForS (iRange1 (mCons (mVarB 0) mNil)) (gN 4)
  (mSeq (mAsg 5 (mVar 4))
  (mSeq (mAsg 6 (mC (.int 0)))
  (mSeq (mAsg 7 (m2 fDiv (mVarB 1) (mC (.int 2))))
  (mSeq (mForS (iRange1 (mCons (mC (.int 8)) mNil)) (gN 2)
  (mSeq (mAsg 6 (m2 fAdd (mVarB 6) (m2 fMul (m2 fMod (mBi fInt1 (mCons (mVarB 5) mNil)) (mC (.int 2))) (mVarB 7))))
  (mSeq (mAsg 5 (m2 fDiv (mVarB 5) (mC (.int 2))))
  (mAsg 7 (m2 fDiv (mVarB 7) (mC (.int 2)))))))
  (mApp 3 (mVar 6)))))))
  (mShare 3 (mRetL (mLc (iRange1 (mCons (mVarB 0) mNil)) (gN 8) mYes (mBi fLen (mCons (mL (mLc (iSeq (mVar 3)) (gN 9) (mT (m2 fLt (mVarB 9) (m2 fIx (mVarB 3) (mVarB 8)))) (mVar 9) [9])) mNil)) [8])))))))
def m__law_ruler : MF := mFn 10 b__law_ruler
theorem ok__law_ruler {P : Program} {w : World} {K : Fg} {mg : Str → Option Value} {base : Heap} {f : Addr} {fd : FuncData} (F : L2.Fun K "_law_ruler" "_law_ruler" s__law_ruler f fd) (T : Top mg)  : FnOk P w K mg base CX0 1 f fd ["_law_size"] (spD K C0 1 m__law_ruler) :=
  fn_data (k := 0) F sc__law_ruler rfl (by decide) fun cdv A outer s H E hr =>
    (ss_cons (s_asg (ps_set (i := 1) sc__law_ruler.nd rfl (.inl rfl) x_int))
    (ss_cons (s_for PassesOwn.never rfl (i_range1 rfl T.n_range (ab_cons (x_b x_int) ab_nil)) (g_name (pg_name (i := 2) sc__law_ruler.nd rfl (.inl rfl)))
    (ss_one (s_if (t_lt rfl hr (b_pv (pv 1)) (b_pv (pv 0)))
    (ss_one (s_asg (ps_set (i := 1) sc__law_ruler.nd rfl (.inl rfl) (x_mul (b_pv (pv 1)) (x_b x_int)))))
    ss_nil)))
    (ss_cons (s_asgL (ps_set (i := 3) sc__law_ruler.nd rfl (.inr rfl) (l_lst a_nil)))
    (ss_cons (s_for PassesOwn.never rfl (i_range1 rfl T.n_range (ab_cons (b_pv (pv 0)) ab_nil)) (g_name (pg_name (i := 4) sc__law_ruler.nd rfl (.inl rfl)))
    (ss_cons (s_asg (ps_set (i := 5) sc__law_ruler.nd rfl (.inl rfl) (x_pv (pv 4))))
    (ss_cons (s_asg (ps_set (i := 6) sc__law_ruler.nd rfl (.inl rfl) x_int))
    (ss_cons (s_asg (ps_set (i := 7) sc__law_ruler.nd rfl (.inl rfl) (x_fdiv (b_pv (pv 1)) (x_b x_int))))
    (ss_cons (s_for PassesOwn.never rfl (i_range1 rfl T.n_range (ab_cons (x_b x_int) ab_nil)) (g_name (pg_name (i := 2) sc__law_ruler.nd rfl (.inl rfl)))
    (ss_cons (s_asg (ps_set (i := 6) sc__law_ruler.nd rfl (.inl rfl) (x_add (b_pv (pv 6)) (x_b (x_mul (x_b (x_mod (x_b (x_int1 rfl T.n_int (ab_cons (b_pv (pv 5)) ab_nil))) (x_b x_int))) (b_pv (pv 7)))))))
    (ss_cons (s_asg (ps_set (i := 5) sc__law_ruler.nd rfl (.inl rfl) (x_fdiv (b_pv (pv 5)) (x_b x_int))))
    (ss_one (s_asg (ps_set (i := 7) sc__law_ruler.nd rfl (.inl rfl) (x_fdiv (b_pv (pv 7)) (x_b x_int))))))))
    (ss_one (s_appN rfl (pv 3) (x_pv (pv 6)))))))))
    (ss_one (s_share 3 (s_retL (l_lc (own := [("_law_slot", 8)]) rfl sc__law_ruler.nd (i_range1 rfl T.n_range (ab_cons (b_pv (pv 0)) ab_nil)) (blkOk_by (N := ["_law_size", "_law_power", "_law_k", "_law_mirrored", "_law_s", "_law_rest", "_law_number", "_law_weight", "_law_slot", "_law_other"]) (sc := defScope s__law_ruler) (by decide +kernel)) (fun _ _ _ _ _ => (g_name (pg_name (i := 8) sc__law_ruler.nd rfl (.inr rfl)))) (fun _ _ _ _ _ => ts_nil) (fun _ _ _ _ _ => (x_len rfl rfl T.n_len (ab_cons (l_b (l_lc (own := [("_law_other", 9)]) rfl sc__law_ruler.nd (i_seq rfl (x_pv (pv 3))) (blkOk_by (N := ["_law_size", "_law_power", "_law_k", "_law_mirrored", "_law_s", "_law_rest", "_law_number", "_law_weight", "_law_slot", "_law_other"]) (sc := _) (by exact rfl)) (fun _ _ _ _ _ => (g_name (pg_name (i := 9) sc__law_ruler.nd rfl (.inl rfl)))) (fun _ _ _ _ _ => (ts_one (t_lt rfl hr (b_pv (pv 9)) (x_b (x_ix rfl (b_pv (pv 3)) (b_pv (pv 8))))))) (fun _ _ _ _ _ => (x_pv (pv 9))) (by decide))) ab_nil))) (by decide)))))))))
abbrev s__law_ranking : Stmt := topS 8
theorem sc__law_ranking : FnScope ["_law_cell_here", "_law_size", "_law_d", "_law_order", "_law_k", "_law_ranking_here"] ["_law_cell_here", "_law_size"] (defScope s__law_ranking) := ⟨rfl, rfl, rfl, by decide +kernel, rfl, by decide +kernel, by decide +kernel⟩
def b__law_ranking : MS :=
  (mSeq (mAsgL 2 (mCallBL 2 m__law_draws (mCons (mVarB 0) (mCons (mL (mLc (iRange1 (mCons (mVarB 1) mNil)) (gN 4) mYes (m2 fAdd (mVarB 4) (mC (.int 1))) [4])) mNil))))
  (mSeq (mAsgL 3 (mLst mNil))
  (mSeq (mForS (iRange1 (mCons (mVarB 1) mNil)) (gN 4)
  (mIns 3 (m2 fIx (mVarB 2) (mVarB 4)) (mVar 4)))
  (mSeq (mAsgL 5 (mRep (mLst (mCons (mC (.int 0)) mNil)) (mVarB 1)))
  (mSeq (mForS (iRange1 (mCons (mVarB 1) mNil)) (gN 4)
  (mSetIx 5 (m2 fIx (mVarB 3) (mVarB 4)) (mVar 4)))
  (mRetO 5))))))
def m__law_ranking : MF := mFn 6 b__law_ranking
theorem ok__law_ranking {P : Program} {w : World} {K : Fg} {mg : Str → Option Value} {base : Heap} {f : Addr} {fd : FuncData} (F : L2.Fun K "_law_ranking" "_law_ranking" s__law_ranking f fd) (T : Top mg) (c__law_draws : Cal P w K mg base CX0 C0 1 "_law_draws" 2 m__law_draws) : FnOk P w K mg base CX0 2 f fd ["_law_cell_here", "_law_size"] (spD K C0 2 m__law_ranking) :=
  fn_data (k := 1) F sc__law_ranking rfl (by decide) fun cdv A outer s H E hr =>
    (ss_cons (s_asgL (ps_set (i := 2) sc__law_ranking.nd rfl (.inl rfl) (l_callB c__law_draws hr (by decide) rfl rfl (ab_cons (b_pv (pv 0)) (ab_cons (l_b (l_lc (own := [("_law_k", 4)]) rfl sc__law_ranking.nd (i_range1 rfl T.n_range (ab_cons (b_pv (pv 1)) ab_nil)) (blkOk_by (N := ["_law_cell_here", "_law_size", "_law_d", "_law_order", "_law_k", "_law_ranking_here"]) (sc := defScope s__law_ranking) (by decide +kernel)) (fun _ _ _ _ _ => (g_name (pg_name (i := 4) sc__law_ranking.nd rfl (.inl rfl)))) (fun _ _ _ _ _ => ts_nil) (fun _ _ _ _ _ => (x_add (b_pv (pv 4)) (x_b x_int))) (by decide))) ab_nil)))))
    (ss_cons (s_asgL (ps_set (i := 3) sc__law_ranking.nd rfl (.inl rfl) (l_lst a_nil)))
    (ss_cons (s_for PassesOwn.never rfl (i_range1 rfl T.n_range (ab_cons (b_pv (pv 1)) ab_nil)) (g_name (pg_name (i := 4) sc__law_ranking.nd rfl (.inl rfl)))
    (ss_one (s_insN rfl (pv 3) (x_b (x_ix rfl (b_pv (pv 2)) (b_pv (pv 4)))) (x_pv (pv 4)))))
    (ss_cons (s_asgL (ps_set (i := 5) sc__law_ranking.nd rfl (.inl rfl) (l_rep (l_lst (a_cons x_int a_nil)) (b_pv (pv 1)))))
    (ss_cons (s_for PassesOwn.never rfl (i_range1 rfl T.n_range (ab_cons (b_pv (pv 1)) ab_nil)) (g_name (pg_name (i := 4) sc__law_ranking.nd rfl (.inl rfl)))
    (ss_one (s_setix (ps_asg (x_pv (pv 4)) (pg_sub (pv 5) (x_b (x_ix rfl (b_pv (pv 3)) (b_pv (pv 4)))) set_list)))))
    (ss_one (s_retO (pv 5))))))))
abbrev s__law_is_numbers : Stmt := topS 10
theorem sc__law_is_numbers : FnScope ["_law_told", "_law_wanted", "_law_k"] ["_law_told", "_law_wanted"] (defScope s__law_is_numbers) := ⟨rfl, rfl, rfl, by decide +kernel, rfl, by decide +kernel, by decide +kernel⟩
def b__law_is_numbers : MS :=
  (mSeq (mIfS (mOr (mNot (mT (mIsi isList (mVarB 0)))) (mT (m2 fNe (mBi fLen (mCons (mVarB 0) mNil)) (mBi fLen (mCons (mVarB 1) mNil)))))
  (mRet (mC (.bool false)))
  mNext)
  (mSeq (mForS (iRange1 (mCons (mBi fLen (mCons (mVarB 1) mNil)) mNil)) (gN 2)
  (mIfS (mOr (mNot (mT (mCallB 1 m__law_is_integer (mCons (m2 fIx (mVarB 0) (mVarB 2)) mNil)))) (mT (m2 fNe (m2 fIx (mVarB 0) (mVarB 2)) (m2 fIx (mVarB 1) (mVarB 2)))))
  (mRet (mC (.bool false)))
  mNext))
  (mRet (mC (.bool true)))))
def m__law_is_numbers : MF := mFn 3 b__law_is_numbers
theorem ok__law_is_numbers {P : Program} {w : World} {K : Fg} {mg : Str → Option Value} {base : Heap} {f : Addr} {fd : FuncData} (F : L2.Fun K "_law_is_numbers" "_law_is_numbers" s__law_is_numbers f fd) (T : Top mg) (c__law_is_integer : Cal P w K mg base CX0 C0 1 "_law_is_integer" 1 m__law_is_integer) : FnOk P w K mg base CX0 2 f fd ["_law_told", "_law_wanted"] (spD K C0 2 m__law_is_numbers) :=
  fn_data (k := 1) F sc__law_is_numbers rfl (by decide) fun cdv A outer s H E hr =>
    (ss_cons (s_if (t_w (w_or (t_not (t_val (x_isi tab_list rfl rfl T.n_isinstance (b_pv (pv 0)) (ty_list rfl T.n_list)))) (w_or1 (t_ne rfl hr (x_b (x_len rfl rfl T.n_len (ab_cons (b_pv (pv 0)) ab_nil))) (x_b (x_len rfl rfl T.n_len (ab_cons (b_pv (pv 1)) ab_nil)))))))
    (ss_one (s_ret x_bl))
    ss_nil)
    (ss_cons (s_for PassesOwn.never rfl (i_range1 rfl T.n_range (ab_cons (x_b (x_len rfl rfl T.n_len (ab_cons (b_pv (pv 1)) ab_nil))) ab_nil)) (g_name (pg_name (i := 2) sc__law_is_numbers.nd rfl (.inl rfl)))
    (ss_one (s_if (t_w (w_or (t_not (t_val (x_callB c__law_is_integer hr (by decide) rfl rfl (ab_cons (x_b (x_ix rfl (b_pv (pv 0)) (b_pv (pv 2)))) ab_nil)))) (w_or1 (t_ne rfl hr (x_b (x_ix rfl (b_pv (pv 0)) (b_pv (pv 2)))) (x_b (x_ix rfl (b_pv (pv 1)) (b_pv (pv 2))))))))
    (ss_one (s_ret x_bl))
    ss_nil)))
    (ss_one (s_ret x_bl))))
abbrev s_ranked_steeps : Stmt := topS 1
theorem sc_ranked_steeps : FnScope ["ranking", "slot", "steps", "steep", "highest_first"] ["ranking", "slot", "steps", "steep"] (defScope s_ranked_steeps) := ⟨rfl, rfl, rfl, by decide +kernel, rfl, by decide +kernel, by decide +kernel⟩
def b_ranked_steeps : MS :=
  (mSeq (mAsgL 4 (mSortG true 2 [0] (m2 fIx (mVarB 1) (mVarB 0)) (iRange2 (mCons (mVarB 1) (mCons (m2 fAdd (mVarB 1) (mVarB 2)) mNil)))))
  (mRetL (mSorted (mL (mCutL (mVarB 4) oNone (oSome (mVarB 3)))))))
def m_ranked_steeps : MF := mFn 5 b_ranked_steeps
theorem ok_ranked_steeps {P : Program} {w : World} {K : Fg} {mg : Str → Option Value} {base : Heap} {f : Addr} {fd : FuncData} {cL_ranked_steeps PL_ranked_steeps : Addr} (F : L2.Fun K "ranked_steeps" "ranked_steeps" s_ranked_steeps f fd) (T : Top mg) (TB_ranked_steeps : LamX.TabB base mg cL_ranked_steeps PL_ranked_steeps) (hL_ranked_steeps : fd.code = .ref cL_ranked_steeps) (t0_ranked_steeps : (PL_ranked_steeps, ((PyProof.Rows.envOfC "ranked_steeps" (defScope s_ranked_steeps) 0 0 .none).qual ++ ("<lambda>" : Str))) ∈ LTb.T) (t1_ranked_steeps : ∀ p ∈ LTb.T, p.1 = PL_ranked_steeps → p.2 = ((PyProof.Rows.envOfC "ranked_steeps" (defScope s_ranked_steeps) 0 0 .none).qual ++ ("<lambda>" : Str))) : FnOk P w K mg base CX0 5 f fd ["ranking", "slot", "steps", "steep"] (spD K C0 4 m_ranked_steeps) :=
  fn_dataL (k := 4) F hL_ranked_steeps sc_ranked_steeps rfl (by decide) fun A outer s H E hr =>
    (ss_cons (s_asgL (ps_set (i := 4) sc_ranked_steeps.nd rfl (.inl rfl) (l_sortGR (k := 1) (N := ["s", "ranking"]) (y := "s") (fr := (["ranking"] : List Str)) (js := [0]) rfl hr (by decide) rfl T.n_sorted (x_rgD2 rfl T.n_range (ab_cons (b_pv (pv 1)) (ab_cons (x_b (x_add (b_pv (pv 1)) (b_pv (pv 2)))) ab_nil))) TB_ranked_steeps rfl t0_ranked_steeps t1_ranked_steeps rfl (NdefX.nscope_by (by decide +kernel)) (show NdefX.ndefB (defScope s_ranked_steeps) _ (["ranking"] : List Str) = true from by decide +kernel) rfl (fun _ _ _ _ _ _ => .of_eq rfl) (fun _ _ _ _ _ _ hr => (x_ix rfl (b_pv (pv 1)) (b_pv (pv 0)))))))
    (ss_one (s_retL (l_sorted rfl hr rfl T.n_sorted (l_b (l_cut rfl (b_pv (pv 4)) o_none (o_some (b_pv (pv 3)))))))))
abbrev s_ranking_by : Stmt := topS 2
theorem sc_ranking_by : FnScope ["keys", "ranking", "lowest_first", "rank", "slot"] ["keys"] (defScope s_ranking_by) := ⟨rfl, rfl, rfl, by decide +kernel, rfl, by decide +kernel, by decide +kernel⟩
def b_ranking_by : MS :=
  (mSeq (mAsgL 1 (mRep (mLst (mCons (mC (.int 0)) mNil)) (mBi fLen (mCons (mVarB 0) mNil))))
  (mSeq (mAsgL 2 (mSortG false 2 [0] (mTup (mCons (m2 fIx (mVarB 1) (mVarB 0)) (mCons (mVar 0) mNil))) (iRange1 (mCons (mBi fLen (mCons (mVarB 0) mNil)) mNil))))
  (mSeq (mShare 2 (mForS (iEnumD (mCons (mVar 2) mNil)) (gSeq 2 (gsCons (gN 3) (gsCons (gN 4) gsNil)))
  (mSetIx 1 (mVarB 4) (mVar 3))))
  (mRetO 1))))
def m_ranking_by : MF := mFn 5 b_ranking_by
theorem ok_ranking_by {P : Program} {w : World} {K : Fg} {mg : Str → Option Value} {base : Heap} {f : Addr} {fd : FuncData} {cL_ranking_by PL_ranking_by : Addr} (F : L2.Fun K "ranking_by" "ranking_by" s_ranking_by f fd) (T : Top mg) (TB_ranking_by : LamX.TabB base mg cL_ranking_by PL_ranking_by) (hL_ranking_by : fd.code = .ref cL_ranking_by) (t0_ranking_by : (PL_ranking_by, ((PyProof.Rows.envOfC "ranking_by" (defScope s_ranking_by) 0 0 .none).qual ++ ("<lambda>" : Str))) ∈ LTb.T) (t1_ranking_by : ∀ p ∈ LTb.T, p.1 = PL_ranking_by → p.2 = ((PyProof.Rows.envOfC "ranking_by" (defScope s_ranking_by) 0 0 .none).qual ++ ("<lambda>" : Str))) : FnOk P w K mg base CX0 5 f fd ["keys"] (spD K C0 1 m_ranking_by) :=
  fn_dataL (k := 4) F hL_ranking_by sc_ranking_by rfl (by decide) fun A outer s H E hr =>
    (ss_cons (s_asgL (ps_set (i := 1) sc_ranking_by.nd rfl (.inl rfl) (l_rep (l_lst (a_cons x_int a_nil)) (x_b (x_len rfl rfl T.n_len (ab_cons (b_pv (pv 0)) ab_nil))))))
    (ss_cons (s_asgL (ps_set (i := 2) sc_ranking_by.nd rfl (.inl rfl) (l_sortG (k := 1) (N := ["slot", "keys"]) (y := "slot") (fr := (["keys"] : List Str)) (js := [0]) rfl hr (by decide) rfl T.n_sorted (x_rgD1 rfl T.n_range (ab_cons (x_b (x_len rfl rfl T.n_len (ab_cons (b_pv (pv 0)) ab_nil))) ab_nil)) TB_ranking_by rfl t0_ranking_by t1_ranking_by rfl (NdefX.nscope_by (by decide +kernel)) (show NdefX.ndefB (defScope s_ranking_by) _ (["keys"] : List Str) = true from by decide +kernel) rfl (fun _ _ _ _ _ _ => .of_eq rfl) (fun _ _ _ _ _ _ hr => (x_tup (a_cons (x_ix rfl (b_pv (pv 1)) (b_pv (pv 0))) (a_cons (x_pv (pv 0)) a_nil)))))))
    (ss_cons (s_share 2 (s_forP PassesOwn.never rfl (i_enum rfl rfl T.n_enumerate (a_cons (x_pv (pv 2)) a_nil)) (g_seqP rfl rfl (gs_cons (g_name (pg_name (i := 3) sc_ranking_by.nd rfl (.inl rfl))) (gs_cons (g_name (pg_name (i := 4) sc_ranking_by.nd rfl (.inl rfl))) gs_nil)))
    (ss_one (s_setix (ps_asg (x_pv (pv 3)) (pg_sub (pv 1) (b_pv (pv 4)) set_list))))))
    (ss_one (s_retO (pv 1))))))
abbrev s_ruler_ranking : Stmt := topS 3
theorem sc_ruler_ranking : FnScope ["size", "digits", "slot"] ["size"] (defScope s_ruler_ranking) := ⟨rfl, rfl, rfl, by decide +kernel, rfl, by decide +kernel, by decide +kernel⟩
def b_ruler_ranking : MS :=
  (mSeq (mAsg 1 (mC (.int 0)))
  (mSeq (mWhile (mT (m2 fLt (m2 fShl (mC (.int 1)) (mVarB 1)) (mVarB 0)))
  (mAug 1 (fun i j => i + j) (mC (.int 1))) 10000)
  (mRetL (mCallBL 1 m_ranking_by (mCons (mL (mLc (iRange1 (mCons (mVarB 0) mNil)) (gN 2) mYes (mCallB 2 m__mirrored (mCons (mVarB 2) (mCons (mVarB 1) mNil))) [2])) mNil)))))
def m_ruler_ranking : MF := mFn 3 b_ruler_ranking
theorem ok_ruler_ranking {P : Program} {w : World} {K : Fg} {mg : Str → Option Value} {base : Heap} {f : Addr} {fd : FuncData} (F : L2.Fun K "ruler_ranking" "ruler_ranking" s_ruler_ranking f fd) (T : Top mg) (c_ranking_by : Cal P w K mg base CX0 C0 5 "ranking_by" 1 m_ranking_by) (c__mirrored : Cal P w K mg base CX0 C0 1 "_mirrored" 2 m__mirrored) : FnOk P w K mg base CX0 6 f fd ["size"] (spD K C0 1 m_ruler_ranking) :=
  fn_data (k := 5) F sc_ruler_ranking rfl (by decide) fun cdv A outer s H E hr =>
    (ss_cons (s_asg (ps_set (i := 1) sc_ruler_ranking.nd rfl (.inr rfl) x_int))
    (ss_cons (s_while PassesOwn.never (t_lt rfl hr (x_b (x_shl (x_b x_int) (b_pv (pv 1)))) (b_pv (pv 0)))
    (ss_one (s_aug (ps_aug (i := 1) sc_ruler_ranking.nd rfl (.inr rfl) (x_b x_int) ip_add))))
    (ss_one (s_retL (l_callB c_ranking_by hr (by decide) rfl rfl (ab_cons (l_b (l_lc (own := [("slot", 2)]) rfl sc_ruler_ranking.nd (i_range1 rfl T.n_range (ab_cons (b_pv (pv 0)) ab_nil)) (blkOk_by (N := ["size", "digits", "slot"]) (sc := defScope s_ruler_ranking) (by decide +kernel)) (fun _ _ _ _ _ => (g_name (pg_name (i := 2) sc_ruler_ranking.nd rfl (.inl rfl)))) (fun _ _ _ _ _ => ts_nil) (fun _ _ _ _ _ => (x_callB c__mirrored hr (by decide) rfl rfl (ab_cons (b_pv (pv 2)) (ab_cons (b_pv (pv 1)) ab_nil)))) (by decide))) ab_nil))))))
abbrev s_law : Stmt := topS 13
theorem sc_law : FnScope ["_law_script", "_law_d", "_law_size", "_law_ranking_here", "_law_w", "_law_slot", "_law_steps", "_law_steep", "_law_handed", "_law_due", "_law_told", "_law_backwards", "_law_other", "_law_many", "_law_ruler_here"] ["_law_script"] (defScope s_law) := ⟨rfl, rfl, rfl, by decide +kernel, rfl, by decide +kernel, by decide +kernel⟩
def b_law : MS :=
  (mSeq (mAsgL 1 (mCallBL 2 m__law_draws (mCons (mCallB 2 m__law_cell (mCons (mVarB 0) (mCons (mC (.int 0)) mNil))) (mCons (mL (mLst (mCons (mC (.int 17)) (mCons (mC (.int 2)) mNil)))) mNil))))
  (mSeq (mAsg 2 (m2 fIx (mVarB 1) (mC (.int 0))))
  (mSeq (mAsgL 3 (mCallBL 2 m__law_ranking (mCons (mCallB 2 m__law_cell (mCons (mVarB 0) (mCons (mC (.int 1)) mNil))) (mCons (mVarB 2) mNil))))
  (mSeq (mAsgL 4 (mCallBL 2 m__law_draws (mCons (mCallB 2 m__law_cell (mCons (mVarB 0) (mCons (mC (.int 2)) mNil))) (mCons (mL (mLst (mCons (mBi fMax2 (mCons (mC (.int 1)) (mCons (mVarB 2) mNil))) (mCons (mC (.int 17)) (mCons (mC (.int 4)) (mCons (mC (.int 17)) mNil)))))) mNil))))
  (mSeq (mAsg 5 (m2 fIx (mVarB 4) (mC (.int 0))))
  (mSeq (mAsg 6 (m2 fMod (mBi fInt1 (mCons (m2 fIx (mVarB 4) (mC (.int 1))) mNil)) (m2 fAdd (m2 fSub (mVarB 2) (mVarB 5)) (mC (.int 1)))))
  (mSeq (mAsg 7 (m2 fMod (mBi fInt1 (mCons (m2 fIx (mVarB 4) (mC (.int 3))) mNil)) (m2 fAdd (mVarB 6) (mC (.int 1)))))
  (mSeq (mIfS (mT (m2 fEq (m2 fIx (mVarB 4) (mC (.int 2))) (mC (.int 0))))
  (mAsg 7 (mC (.int 0)))
  mNext)
  (mSeq (mIfS (mT (m2 fEq (m2 fIx (mVarB 4) (mC (.int 2))) (mC (.int 1))))
  (mAsg 7 (mVar 6))
  mNext)
  (mSeq (mAsgL 8 (iSeq (mVarB 3)))
  (mSeq (mIfS (mT (m2 fEq (m2 fIx (mVarB 1) (mC (.int 1))) (mC (.int 1))))
  (mAsg 8 (mTupOf (mVarB 3)))
  mNext)
  (mSeq (mAsgL 9 (mCallBL 4 m__law_highest (mCons (mVarB 3) (mCons (mVarB 5) (mCons (mVarB 6) (mCons (mVarB 7) mNil))))))
  (mSeq (mAsgL 10 (mCallBL 4 m_ranked_steeps (mCons (mVarB 8) (mCons (mVarB 5) (mCons (mVarB 6) (mCons (mVarB 7) mNil))))))
  (mSeq (mIfS (mOr (mNot (mT (mCallB 2 m__law_is_numbers (mCons (mVarB 10) (mCons (mVarB 9) mNil))))) (mT (m2 fNe (mL (iSeq (mVarB 8))) (mVarB 3))))
  (mRet (mC (.bool false)))
  mNext)
  (mSeq (mApp 10 (m1 fNeg (mC (.int 1))))
  (mSeq (mAsgL 11 (mRevL (mVarB 3)))
  (mSeq (mAsgL 12 (mCallBL 4 m_ranked_steeps (mCons (mL (iSeq (mVarB 11))) (mCons (mVarB 5) (mCons (mVarB 6) (mCons (mVarB 7) mNil))))))
  (mSeq (mIfS (mNot (mT (mCallB 2 m__law_is_numbers (mCons (mVarB 12) (mCons (mL (mCallBL 4 m__law_highest (mCons (mVarB 11) (mCons (mVarB 5) (mCons (mVarB 6) (mCons (mVarB 7) mNil)))))) mNil)))))
  (mRet (mC (.bool false)))
  mNext)
  (mSeq (mIfS (mNot (mT (mCallB 2 m__law_is_numbers (mCons (mL (mCallBL 4 m_ranked_steeps (mCons (mVarB 8) (mCons (mVarB 5) (mCons (mVarB 6) (mCons (mVarB 7) mNil)))))) (mCons (mVarB 9) mNil)))))
  (mRet (mC (.bool false)))
  mNext)
  (mSeq (mAsg 13 (m2 fIx (mL (mCallBL 2 m__law_draws (mCons (mCallB 2 m__law_cell (mCons (mVarB 0) (mCons (mC (.int 3)) mNil))) (mCons (mL (mLst (mCons (mC (.int 65)) mNil))) mNil)))) (mC (.int 0))))
  (mSeq (mAsgL 14 (mCallBL 1 m__law_ruler (mCons (mVarB 13) mNil)))
  (mSeq (mAsgL 10 (mCallBL 1 m_ruler_ranking (mCons (mVarB 13) mNil)))
  (mSeq (mIfS (mNot (mT (mCallB 2 m__law_is_numbers (mCons (mVarB 10) (mCons (mVarB 14) mNil)))))
  (mRet (mC (.bool false)))
  mNext)
  (mSeq (mClr 10)
  (mRet (mCallB 2 m__law_is_numbers (mCons (mL (mCallBL 1 m_ruler_ranking (mCons (mVarB 13) mNil))) (mCons (mVarB 14) mNil))))))))))))))))))))))))))))
def m_law : MF := mFn 15 b_law
theorem ok_law {P : Program} {w : World} {K : Fg} {mg : Str → Option Value} {base : Heap} {f : Addr} {fd : FuncData} (F : L2.Fun K "law" "law" s_law f fd) (T : Top mg) (c_ranked_steeps : Cal P w K mg base CX0 C0 5 "ranked_steeps" 4 m_ranked_steeps) (c_ruler_ranking : Cal P w K mg base CX0 C0 6 "ruler_ranking" 1 m_ruler_ranking) (c__law_cell : Cal P w K mg base CX0 C0 1 "_law_cell" 2 m__law_cell) (c__law_draws : Cal P w K mg base CX0 C0 1 "_law_draws" 2 m__law_draws) (c__law_ranking : Cal P w K mg base CX0 C0 2 "_law_ranking" 2 m__law_ranking) (c__law_is_numbers : Cal P w K mg base CX0 C0 2 "_law_is_numbers" 2 m__law_is_numbers) (c__law_highest : Cal P w K mg base CX0 C0 1 "_law_highest" 4 m__law_highest) (c__law_ruler : Cal P w K mg base CX0 C0 1 "_law_ruler" 1 m__law_ruler) : FnOk P w K mg base CX0 7 f fd ["_law_script"] (spD K C0 1 m_law) :=
  fn_data (k := 6) F sc_law rfl (by decide) fun cdv A outer s H E hr =>
    (ss_cons (s_asgL (ps_set (i := 1) sc_law.nd rfl (.inl rfl) (l_callB c__law_draws hr (by decide) rfl rfl (ab_cons (x_b (x_callB c__law_cell hr (by decide) rfl rfl (ab_cons (b_pv (pv 0)) (ab_cons (x_b x_int) ab_nil)))) (ab_cons (l_b (l_lst (a_cons x_int (a_cons x_int a_nil)))) ab_nil)))))
    (ss_cons (s_asg (ps_set (i := 2) sc_law.nd rfl (.inl rfl) (x_ix rfl (b_pv (pv 1)) (x_b x_int))))
    (ss_cons (s_asgL (ps_set (i := 3) sc_law.nd rfl (.inl rfl) (l_callB c__law_ranking hr (by decide) rfl rfl (ab_cons (x_b (x_callB c__law_cell hr (by decide) rfl rfl (ab_cons (b_pv (pv 0)) (ab_cons (x_b x_int) ab_nil)))) (ab_cons (b_pv (pv 2)) ab_nil)))))
    (ss_cons (s_asgL (ps_set (i := 4) sc_law.nd rfl (.inl rfl) (l_callB c__law_draws hr (by decide) rfl rfl (ab_cons (x_b (x_callB c__law_cell hr (by decide) rfl rfl (ab_cons (b_pv (pv 0)) (ab_cons (x_b x_int) ab_nil)))) (ab_cons (l_b (l_lst (a_cons (x_max2 rfl rfl T.n_max (ab_cons (x_b x_int) (ab_cons (b_pv (pv 2)) ab_nil))) (a_cons x_int (a_cons x_int (a_cons x_int a_nil)))))) ab_nil)))))
    (ss_cons (s_asg (ps_set (i := 5) sc_law.nd rfl (.inl rfl) (x_ix rfl (b_pv (pv 4)) (x_b x_int))))
    (ss_cons (s_asg (ps_set (i := 6) sc_law.nd rfl (.inl rfl) (x_mod (x_b (x_int1 rfl T.n_int (ab_cons (x_b (x_ix rfl (b_pv (pv 4)) (x_b x_int))) ab_nil))) (x_b (x_add (x_b (x_sub (b_pv (pv 2)) (b_pv (pv 5)))) (x_b x_int))))))
    (ss_cons (s_asg (ps_set (i := 7) sc_law.nd rfl (.inl rfl) (x_mod (x_b (x_int1 rfl T.n_int (ab_cons (x_b (x_ix rfl (b_pv (pv 4)) (x_b x_int))) ab_nil))) (x_b (x_add (b_pv (pv 6)) (x_b x_int))))))
    (ss_cons (s_if (t_eq rfl hr (x_b (x_ix rfl (b_pv (pv 4)) (x_b x_int))) (x_b x_int))
    (ss_one (s_asg (ps_set (i := 7) sc_law.nd rfl (.inl rfl) x_int)))
    ss_nil)
    (ss_cons (s_if (t_eq rfl hr (x_b (x_ix rfl (b_pv (pv 4)) (x_b x_int))) (x_b x_int))
    (ss_one (s_asg (ps_set (i := 7) sc_law.nd rfl (.inl rfl) (x_pv (pv 6)))))
    ss_nil)
    (ss_cons (s_asgL (ps_set (i := 8) sc_law.nd rfl (.inl rfl) (l_listOf rfl rfl T.n_list (b_pv (pv 3)))))
    (ss_cons (s_if (t_eq rfl hr (x_b (x_ix rfl (b_pv (pv 1)) (x_b x_int))) (x_b x_int))
    (ss_one (s_asg (ps_set (i := 8) sc_law.nd rfl (.inl rfl) (x_tupOf rfl rfl T.n_tuple (b_pv (pv 3))))))
    ss_nil)
    (ss_cons (s_asgL (ps_set (i := 9) sc_law.nd rfl (.inl rfl) (l_callB c__law_highest hr (by decide) rfl rfl (ab_cons (b_pv (pv 3)) (ab_cons (b_pv (pv 5)) (ab_cons (b_pv (pv 6)) (ab_cons (b_pv (pv 7)) ab_nil)))))))
    (ss_cons (s_asgL (ps_set (i := 10) sc_law.nd rfl (.inl rfl) (l_callB c_ranked_steeps hr (by decide) rfl rfl (ab_cons (b_pv (pv 8)) (ab_cons (b_pv (pv 5)) (ab_cons (b_pv (pv 6)) (ab_cons (b_pv (pv 7)) ab_nil)))))))
    (ss_cons (s_if (t_w (w_or (t_not (t_val (x_callB c__law_is_numbers hr (by decide) rfl rfl (ab_cons (b_pv (pv 10)) (ab_cons (b_pv (pv 9)) ab_nil))))) (w_or1 (t_ne rfl hr (l_b (l_listOf rfl rfl T.n_list (b_pv (pv 8)))) (b_pv (pv 3))))))
    (ss_one (s_ret x_bl))
    ss_nil)
    (ss_cons (s_appN rfl (pv 10) (x_neg (x_b x_int)))
    (ss_cons (s_asgL (ps_set (i := 11) sc_law.nd rfl (.inl rfl) (l_rev rfl (b_pv (pv 3)))))
    (ss_cons (s_asgL (ps_set (i := 12) sc_law.nd rfl (.inl rfl) (l_callB c_ranked_steeps hr (by decide) rfl rfl (ab_cons (l_b (l_listOf rfl rfl T.n_list (b_pv (pv 11)))) (ab_cons (b_pv (pv 5)) (ab_cons (b_pv (pv 6)) (ab_cons (b_pv (pv 7)) ab_nil)))))))
    (ss_cons (s_if (t_not (t_val (x_callB c__law_is_numbers hr (by decide) rfl rfl (ab_cons (b_pv (pv 12)) (ab_cons (l_b (l_callB c__law_highest hr (by decide) rfl rfl (ab_cons (b_pv (pv 11)) (ab_cons (b_pv (pv 5)) (ab_cons (b_pv (pv 6)) (ab_cons (b_pv (pv 7)) ab_nil)))))) ab_nil)))))
    (ss_one (s_ret x_bl))
    ss_nil)
    (ss_cons (s_if (t_not (t_val (x_callB c__law_is_numbers hr (by decide) rfl rfl (ab_cons (l_b (l_callB c_ranked_steeps hr (by decide) rfl rfl (ab_cons (b_pv (pv 8)) (ab_cons (b_pv (pv 5)) (ab_cons (b_pv (pv 6)) (ab_cons (b_pv (pv 7)) ab_nil)))))) (ab_cons (b_pv (pv 9)) ab_nil)))))
    (ss_one (s_ret x_bl))
    ss_nil)
    (ss_cons (s_asg (ps_set (i := 13) sc_law.nd rfl (.inl rfl) (x_ix rfl (l_b (l_callB c__law_draws hr (by decide) rfl rfl (ab_cons (x_b (x_callB c__law_cell hr (by decide) rfl rfl (ab_cons (b_pv (pv 0)) (ab_cons (x_b x_int) ab_nil)))) (ab_cons (l_b (l_lst (a_cons x_int a_nil))) ab_nil)))) (x_b x_int))))
    (ss_cons (s_asgL (ps_set (i := 14) sc_law.nd rfl (.inl rfl) (l_callB c__law_ruler hr (by decide) rfl rfl (ab_cons (b_pv (pv 13)) ab_nil))))
    (ss_cons (s_asgL (ps_set (i := 10) sc_law.nd rfl (.inl rfl) (l_callB c_ruler_ranking hr (by decide) rfl rfl (ab_cons (b_pv (pv 13)) ab_nil))))
    (ss_cons (s_if (t_not (t_val (x_callB c__law_is_numbers hr (by decide) rfl rfl (ab_cons (b_pv (pv 10)) (ab_cons (b_pv (pv 14)) ab_nil)))))
    (ss_one (s_ret x_bl))
    ss_nil)
    (ss_cons (s_clrN rfl (pv 10))
    (ss_one (s_ret (x_callB c__law_is_numbers hr (by decide) rfl rfl (ab_cons (l_b (l_callB c_ruler_ranking hr (by decide) rfl rfl (ab_cons (b_pv (pv 13)) ab_nil))) (ab_cons (b_pv (pv 14)) ab_nil)))))))))))))))))))))))))))))

end Toy

/-! # The first k by a key without equals -/
namespace TK
theorem asc_eq : ∀ {A B : List Int}, A.Pairwise (· < ·) → B.Pairwise (· < ·) → (∀ x, x ∈ A ↔ x ∈ B) → A = B
  | [], [], _, _, _ => rfl
  | [], b :: B, _, _, h => by have := (h b).mpr List.mem_cons_self; cases this
  | a :: A, [], _, _, h => by have := (h a).mp List.mem_cons_self; cases this
  | a :: A, b :: B, ha, hb, h => by
    obtain ⟨a1, a2⟩ := List.pairwise_cons.mp ha
    obtain ⟨b1, b2⟩ := List.pairwise_cons.mp hb
    have e : a = b := by
      rcases List.mem_cons.mp ((h a).mp List.mem_cons_self) with z | z
      · exact z
      · rcases List.mem_cons.mp ((h b).mpr List.mem_cons_self) with y | y
        · exact y.symm
        · have := b1 a z
          have := a1 b y
          omega
    subst e
    have : A = B := asc_eq a2 b2 fun x => by
      constructor
      · intro hx
        rcases List.mem_cons.mp ((h x).mp (List.mem_cons_of_mem _ hx)) with z | z
        · have := a1 x hx; omega
        · exact z
      · intro hx
        rcases List.mem_cons.mp ((h x).mpr (List.mem_cons_of_mem _ hx)) with z | z
        · have := b1 x hx; omega
        · exact z
    rw [this]
/-- how many stand higher is the place -/
theorem place {f : Int → Int} : ∀ {M : List Int}, M.Pairwise (fun a b => f b < f a) → ∀ i (h : i < M.length), (M.filter fun t => decide (f M[i] < f t)).length = i
  | [], _, i, h => by simp at h
  | m :: M, hp, 0, _ => by
    obtain ⟨h1, h2⟩ := List.pairwise_cons.mp hp
    rw [List.getElem_cons_zero, List.length_eq_zero_iff, List.filter_eq_nil_iff]
    intro t ht
    rcases List.mem_cons.mp ht with z | z
    · subst z; simp
    · have := h1 t z
      simp; omega
  | m :: M, hp, i + 1, h => by
    obtain ⟨h1, h2⟩ := List.pairwise_cons.mp hp
    have hi : i < M.length := by simpa using h
    rw [List.getElem_cons_succ, List.filter_cons, if_pos (by simpa using h1 _ (List.getElem_mem hi)), List.length_cons, place h2 i hi]
theorem mem_take {f : Int → Int} {L M : List Int} (hM : M.Pairwise fun a b => f b < f a) (hp : M.Perm L) {k : Nat} (x : Int) : x ∈ M.take k ↔ x ∈ L ∧ (L.filter fun t => decide (f x < f t)).length < k := by
  have hc : ∀ x, (L.filter fun t => decide (f x < f t)).length = (M.filter fun t => decide (f x < f t)).length := fun x => (hp.filter _).length_eq.symm
  rw [hc]
  constructor
  · intro h
    obtain ⟨i, hi, e⟩ := List.mem_take_iff_getElem.mp h
    have hi' : i < M.length := by omega
    refine ⟨hp.mem_iff.mp (e ▸ List.getElem_mem hi'), ?_⟩
    rw [← e, place hM i hi']
    omega
  · rintro ⟨h, hk⟩
    obtain ⟨i, hi, e⟩ := List.getElem_of_mem (hp.mem_iff.mpr h)
    rw [← e, place hM i hi] at hk
    exact List.mem_take_iff_getElem.mpr ⟨i, by omega, e⟩
/-- sorted by the key downwards, the first k, sorted: those with fewer than k higher -/
theorem top {f : Int → Int} {L M R : List Int} {k : Nat} (hL : L.Pairwise (· < ·)) (hinj : ∀ x ∈ L, ∀ y ∈ L, f x = f y → x = y) (hp : M.Perm L) (hM : M.Pairwise fun a b => f b ≤ f a) (hR : R.Perm (M.take k)) (hRs : R.Pairwise (· ≤ ·)) :
    R = L.filter fun s => decide ((L.filter fun t => decide (f s < f t)).length < k) := by
  have ndL : L.Nodup := hL.imp fun h e => by omega
  have ndM : M.Nodup := hp.nodup_iff.mpr ndL
  have hM' : M.Pairwise fun a b => f b < f a := by
    refine (List.pairwise_iff_getElem.mpr fun i j hi hj hij => ?_)
    have h1 := List.pairwise_iff_getElem.mp hM i j hi hj hij
    have h2 : f M[j] ≠ f M[i] := fun e => by
      have := hinj _ (hp.mem_iff.mp (List.getElem_mem hj)) _ (hp.mem_iff.mp (List.getElem_mem hi)) e
      exact List.pairwise_iff_getElem.mp ndM i j hi hj hij this.symm
    omega
  have ndR : R.Nodup := hR.nodup_iff.mpr (ndM.sublist (List.take_sublist _ _))
  have hR' : R.Pairwise (· < ·) := by
    refine List.pairwise_iff_getElem.mpr fun i j hi hj hij => ?_
    have h1 := List.pairwise_iff_getElem.mp hRs i j hi hj hij
    have h2 := List.pairwise_iff_getElem.mp ndR i j hi hj hij
    omega
  refine asc_eq hR' (hL.sublist List.filter_sublist) fun x => ?_
  rw [hR.mem_iff, mem_take hM' hp, List.mem_filter]
  simp
/-- a permutation's inverse has no number twice -/
theorem inverse {n : Nat} {o : List Nat} {r : List Int} (ho : o.Perm (List.range n)) (hr : r.length = n) (h : ∀ k (hk : k < o.length), r[o[k]]? = some (k : Int)) : r.Nodup := by
  have hlen : o.length = n := by rw [ho.length_eq, List.length_range]
  refine List.pairwise_iff_getElem.mpr fun i j hi hj hij e => ?_
  have at_ : ∀ i, i < n → ∃ k, ∃ hk : k < o.length, o[k] = i := fun i hi => by
    obtain ⟨k, hk, e⟩ := List.getElem_of_mem (ho.mem_iff.mpr (List.mem_range.mpr hi))
    exact ⟨k, hk, e⟩
  obtain ⟨a, ha, ea⟩ := at_ i (by omega)
  obtain ⟨b, hb, eb⟩ := at_ j (by omega)
  have h1 := h a ha
  have h2 := h b hb
  rw [ea, List.getElem?_eq_getElem hi] at h1
  rw [eb, List.getElem?_eq_getElem hj] at h2
  have : a = b := by
    have e1 := Option.some.inj h1
    have e2 := Option.some.inj h2
    omega
  subst this
  omega
end TK

namespace Toy
open PySem L2 DD
def DrawsOk (sizes : List Int) (o : Out) : Prop := ∃ ds : List Int, o = .rtl (ds.map .int) ∧ ds.length = sizes.length ∧ ∀ (i : Nat) (d z : Int), ds[i]? = some d → sizes[i]? = some z → 0 ≤ d ∧ d < z
theorem draws_ok (c : Int) (sizes : List Int) (hp : ∀ z ∈ sizes, 0 < z ∧ z < 1000000) (hl : sizes.length ≤ 1000) : DrawsOk sizes (m__law_draws [.int c, .list (sizes.map .int)]) := by
  unfold m__law_draws mFn b__law_draws startS
  simp [f_pow]
  refine for_seq (Q := DrawsOk sizes) (ds := rangeD 0 sizes.length) ?_ (fun i s => ∃ (ds : List Int) (r : Int) (x5 x6 x7 : Option Sl), s = [some (.sh (.int c)), some (.sh (.list (sizes.map .int))), some (.ow (ds.map .int)), some (.sh (.int r)), some (.sh (.bool (decide ((1000000000000000000 : Int) ≤ c)))), x5, x6, x7] ∧ ds.length = i ∧ ∀ (i : Nat) (d z : Int), ds[i]? = some d → sizes[i]? = some z → 0 ≤ d ∧ d < z) ?_ ?_ ?_
  · rw [e_rng1 (n := sizes.length) (by simp) (lim_in (by omega))]; simp
  · exact ⟨[], c, none, none, none, rfl, rfl, by simp⟩
  · rintro i d s1 hd ⟨ds, r, x5, x6, x7, rfl, hn, hb⟩
    obtain ⟨hi, rfl⟩ := range_get0 hd
    have hz : sizes[i]? = some sizes[i] := List.getElem?_eq_getElem hi
    obtain ⟨z0, z1⟩ := hp _ (List.getElem_mem hi)
    have hix : L2.atI (sizes.map PyData.int) (i : Int) = some (.int sizes[i]) := atI_nat' (by omega) (by simp)
    have more : ∀ (x : Int), 0 ≤ x ∧ x < sizes[i] → ∀ (j : Nat) (d z : Int), (ds ++ [x])[j]? = some d → sizes[j]? = some z → 0 ≤ d ∧ d < z := by
      intro x hx j d z h1 h2
      rw [List.getElem?_append] at h1
      split at h1
      · exact hb j d z h1 h2
      · rename_i h3
        have : j = i := by
          have h4 := (List.getElem?_eq_some_iff.mp h1).1
          simp at h4; omega
        subst this
        rw [hz] at h2; cases h2
        rw [show j - ds.length = 0 by omega] at h1
        simp at h1; subst h1; exact hx
    have fin : ∀ x : Int, ∃ ds1 : List Int, ds.map PyData.int ++ [PyData.int (x % sizes[i])] = ds1.map PyData.int ∧ ds1.length = i + 1 ∧ ∀ (i : Nat) (d z : Int), ds1[i]? = some d → sizes[i]? = some z → 0 ≤ d ∧ d < z := fun x =>
      ⟨ds ++ [x % sizes[i]], by simp, by simp [hn], more _ ⟨Int.emod_nonneg _ (by omega), Int.emod_lt_of_pos _ z0⟩⟩
    refine ⟨_, rfl, ?_⟩
    have hds : ds.length < 100000 := by omega
    by_cases hc : (1000000000000000000 : Int) ≤ c ∧ 0 < r
    · have hd2 : 0 < sizes[i] ∧ sizes[i] < 1073741824 := ⟨z0, by omega⟩
      simp [hix, f_mod, f_div hd2, hc.1, hc.2, hds, z0]
      exact fin _
    · have hc' : (if (1000000000000000000 : Int) ≤ c then some (decide (0 < r)) else some false) = some false := by
        split
        · simp; omega
        · rfl
      simp [hix, f_mod, f_div, f_mul, f_mulM, hc', hds, z0]
      exact fin _
  · rintro s1 ⟨ds, r, x5, x6, x7, rfl, hn, hb⟩
    simp
    rw [range_len] at hn
    exact ⟨ds, rfl, hn, hb⟩
/-- a call of it -/
theorem lst_draws {c : Int} {sizes : List Int} (hp : ∀ z ∈ sizes, 0 < z ∧ z < 1000000) (hl : sizes.length ≤ 1000) : ∃ f : Nat → Int, (lstOf (m__law_draws [.int c, .list (sizes.map .int)])).bind okList = some (dl f sizes.length) ∧ ∀ (i : Nat) (z : Int), sizes[i]? = some z → 0 ≤ f i ∧ f i < z := by
  obtain ⟨ds, h, q, hb⟩ := draws_ok c sizes hp hl
  refine ⟨fun i => ds.getD i 0, by rw [h, lst_1, Option.bind_some, ok_1 (flat_I ds), dl_of, q], fun i z hz => ?_⟩
  have hi : i < ds.length := by rw [q]; exact (List.getElem?_eq_some_iff.mp hz).1
  have : ds[i]? = some (ds.getD i 0) := by simp [hi]
  exact hb i _ z this hz
theorem cell_ok (ns : List Int) (k : Nat) (hl : ns.length ≤ 1000) : ∃ c : Int, m__law_cell [.list (ns.map .int), .int k] = .rt (.int c) := by
  unfold m__law_cell mFn b__law_cell startS
  by_cases h : (k : Int) < ns.length
  · have hk : k < ns.length := by omega
    refine ⟨ns[k], ?_⟩
    have hix : L2.atI (ns.map PyData.int) (k : Int) = some (.int ns[k]) := atI_nat' (by omega) (by simp [hk])
    simp [h, hix]
  · refine ⟨0, ?_⟩
    simp [h]
/-- a board with sides from 0 to n -/
def Board (n : Int) (w h : Int) : Prop := 0 ≤ w ∧ w ≤ n ∧ 0 ≤ h ∧ h ≤ n
theorem sizes_ok (n : Nat) (hn : n ≤ 100) (c : Int) : mLc (iRange1 (mCons (mVarB 1) mNil)) (gN 4) mYes (m2 fAdd (mVarB 4) (mC (.int 1))) [4] [some (.sh (.int c)), some (.sh (.int n)), none, none, none, none] = some (((List.range n).map fun k : Nat => ((k : Int) + 1)).map .int) := by
  rw [lc_of (xs := List.range n) (e := fun k => .int (k : Nat)) (p := fun _ => true) (f := fun k => .int ((k : Nat) + 1)) rfl ?_ (by simp; omega) fun k hk => ⟨_, rfl, rfl, fun _ => rfl⟩]
  · rw [List.filter_eq_self.mpr (fun _ _ => rfl), List.map_map]
    rfl
  · rw [e_rng1 (n := n) (by simp) (lim_in (by omega)), rangeD_map]
    rfl
/-- a ranking: no number twice -/
theorem ranking_ok (c : Int) (n : Nat) (hn : n ≤ 100) : ∃ r : List Int, m__law_ranking [.int c, .int n] = .rtl (r.map .int) ∧ r.length = n ∧ r.Nodup := by
  obtain ⟨f, hd, hb⟩ := lst_draws (c := c) (sizes := (List.range n).map fun k : Nat => ((k : Int) + 1)) (by simp; omega) (by simp; omega)
  have hf : ∀ k, k < n → 0 ≤ f k ∧ f k < k + 1 := fun k hk => hb k _ (by simp [hk])
  rw [List.length_map, List.length_range, List.map_map] at hd
  suffices hq : (fun o => ∃ r : List Int, o = Out.rtl (r.map .int) ∧ r.length = n ∧ r.Nodup) (m__law_ranking [.int c, .int n]) from hq
  unfold m__law_ranking mFn b__law_ranking startS
  simp [sizes_ok n hn c, hd]
  refine for_seq (Q := fun o => ∃ r : List Int, o = Out.rtl (r.map .int) ∧ r.length = n ∧ r.Nodup) (ds := rangeD 0 n) ?_ (fun i s => ∃ (o : List Nat) (x4 : Option Sl), i ≤ n ∧ o.Perm (List.range i) ∧ s = [some (.sh (.int c)), some (.sh (.int n)), some (.ow (dl f n)), some (.ow (o.map fun k => .int (k : Nat))), x4, none]) ?_ ?_ ?_
  · rw [e_rng1 (n := n) (by simp) (lim_in (by omega))]; rfl
  · exact ⟨[], none, Nat.zero_le _, .nil, rfl⟩
  · rintro i d s1 hd' ⟨o, x4, hi, hp, rfl⟩
    obtain ⟨hlt, rfl⟩ := range_get0 hd'
    refine ⟨_, rfl, ?_⟩
    obtain ⟨f0, f1⟩ := hf i hlt
    have hix : L2.atI (dl f n) (i : Int) = some (.int (f i)) := by have := atI_dl (f := f) (n := n) (k := (i : Int)) (by omega); rwa [Int.toNat_natCast] at this
    have hol : o.length = i := by rw [hp.length_eq, List.length_range]
    have e1 : mIns 3 (m2 fIx (mVarB 2) (mVarB 4)) (mVar 4) [some (.sh (.int c)), some (.sh (.int n)), some (.ow (dl f n)), some (.ow (o.map fun k => PyData.int (k : Nat))), some (.sh (.int (i : Nat))), none] = .nx [some (.sh (.int c)), some (.sh (.int n)), some (.ow (dl f n)), some (.ow ((o.take (f i).toNat ++ [i] ++ o.drop (f i).toNat).map fun k => .int (k : Nat))), some (.sh (.int (i : Nat))), none] := by
      unfold mIns
      simp [hix]
      rw [if_pos ⟨f0, by omega, by omega⟩]
    show DD.Turn _ _ _ (mIns 3 (m2 fIx (mVarB 2) (mVarB 4)) (mVar 4) [some (.sh (.int c)), some (.sh (.int n)), some (.ow (dl f n)), some (.ow (o.map fun k => PyData.int (k : Nat))), some (.sh (.int (i : Nat))), none])
    rw [e1]
    refine ⟨_, _, by omega, ?_, rfl⟩
    rw [List.range_succ, List.append_assoc]
    refine List.perm_middle.trans ?_
    show (i :: (o.take (f i).toNat ++ o.drop (f i).toNat)).Perm _
    rw [List.take_append_drop]
    exact (List.perm_append_comm (l₁ := [i]) (l₂ := o)).trans (hp.append_right [i])
  · rintro s1 ⟨o, x4, hi, hp, rfl⟩
    rw [range_len] at hp
    have hol : o.length = n := by rw [hp.length_eq, List.length_range]
    simp [show (n : Int) ≤ 100000 by omega, show n ≤ 100000 by omega]
    refine for_seq (Q := fun o => ∃ r : List Int, o = Out.rtl (r.map .int) ∧ r.length = n ∧ r.Nodup) (ds := rangeD 0 n) ?_ (fun i s => ∃ (r : List Int) (x4 : Option Sl), i ≤ n ∧ r.length = n ∧ (∀ k (hk : k < o.length), k < i → r[o[k]]? = some (k : Int)) ∧ s = [some (.sh (.int c)), some (.sh (.int n)), some (.ow (dl f n)), some (.ow (o.map fun k => .int (k : Nat))), x4, some (.ow (r.map .int))]) ?_ ?_ ?_
    · rw [e_rng1 (n := n) (by simp) (lim_in (by omega))]; rfl
    · exact ⟨List.replicate n 0, x4, Nat.zero_le _, by simp, fun k hk z => by omega, by simp⟩
    · rintro i d s1 hd' ⟨r, x4, hi, hrl, hr, rfl⟩
      obtain ⟨hlt, rfl⟩ := range_get0 hd'
      refine ⟨_, rfl, ?_⟩
      have hoi : o[i]'(by omega) < n := List.mem_range.mp (hp.mem_iff.mp (List.getElem_mem (by omega)))
      have hix : L2.atI (o.map fun k => PyData.int (k : Nat)) (i : Int) = some (.int (o[i]'(by omega) : Nat)) := atI_nat' (by omega) (by rw [Int.toNat_natCast, List.getElem?_map, List.getElem?_eq_getElem (by omega)]; rfl)
      have hxn : ixN r.length ((o[i]'(by omega) : Nat) : Int) = some (o[i]'(by omega)) := by
        unfold ixN
        simp
        omega
      have hj : r.length = n := hrl
      simp [hix, hxn]
      refine ⟨by omega, r.set (o[i]'(by omega)) i, by simp [hrl], fun k hk hki => ?_, by rw [List.map_set]⟩
      by_cases hke : k = i
      · subst hke
        rw [List.getElem?_set_self (by omega)]
      · have nd : o.Nodup := hp.nodup_iff.mpr List.nodup_range
        have ne : o[i]'(by omega) ≠ o[k] := fun z => by
          have h1 := (List.getElem_inj nd).mp z
          omega
        rw [List.getElem?_set_ne ne]
        exact hr k hk (by omega)
    · rintro s1 ⟨r, x4, hi, hrl, hr, rfl⟩
      rw [range_len] at hr
      simp
      exact ⟨r, rfl, hrl, TK.inverse hp hrl fun k hk => hr k hk (by omega)⟩
end Toy

namespace Toy
open PySem L2 DD
/-- the slots from a on -/
def slots (a n : Nat) : List Int := (List.range n).map fun i : Nat => ((a + i : Nat) : Int)
def key (r : List Int) (x : Int) : Int := r.getD x.toNat 0
def high (r : List Int) (a n k : Nat) : List Int := (slots a n).filter fun s => decide (((slots a n).filter fun t => decide (key r s < key r t)).length < k)
theorem rangeD_slots {a n : Nat} : rangeD (a : Int) n = (slots a n).map .int := by
  unfold rangeD slots
  rw [List.map_map]
  apply List.map_congr_left
  intro i _
  simp
theorem slots_mem {a n : Nat} {x : Int} (h : x ∈ slots a n) : ∃ i : Nat, i < n ∧ x = ((a + i : Nat) : Int) := by
  obtain ⟨i, hi, e⟩ := List.mem_map.mp h
  exact ⟨i, List.mem_range.mp hi, e.symm⟩
theorem key_at {r : List Int} {i : Nat} (h : i < r.length) : L2.atI (r.map PyData.int) ((i : Nat) : Int) = some (.int (key r (i : Nat))) := atI_nat' (by omega) (by
  rw [Int.toNat_natCast, List.getElem?_map, List.getElem?_eq_getElem h]
  unfold key
  simp [h])
theorem slots_asc {a n : Nat} : (slots a n).Pairwise (· < ·) := by
  unfold slots
  rw [List.pairwise_map]
  exact List.pairwise_lt_range.imp fun h => by omega
theorem key_inj {r : List Int} (nd : r.Nodup) {i j : Nat} (hi : i < r.length) (hj : j < r.length) (h : key r (i : Nat) = key r (j : Nat)) : i = j := by
  unfold key at h
  simp [hi, hj] at h
  exact (List.getElem_inj nd).mp h
theorem highest_ok {r : List Int} {a n k : Nat} (h : a + n ≤ r.length) (hn : r.length ≤ 1000) : m__law_highest [.list (r.map .int), .int a, .int n, .int k] = .rtl ((high r a n k).map .int) := by
  unfold m__law_highest mFn b__law_highest startS
  have ef : ∀ (s : Int), s ∈ slots a n → ∀ (s4 s6 : Option Sl), mLc (iRange2 (mCons (mVarB 1) (mCons (m2 fAdd (mVarB 1) (mVarB 2)) mNil))) (gN 7) (mT (m2 fGt (m2 fIx (mVarB 0) (mVarB 7)) (m2 fIx (mVarB 0) (mVarB 5)))) (mVar 7) [7] [some (.sh (.list (r.map .int))), some (.sh (.int a)), some (.sh (.int n)), some (.sh (.int k)), s4, some (.sh (.int s)), s6, none] = some (((slots a n).filter fun t => decide (key r s < key r t)).map .int) := fun s hs s4 s6 => by
    obtain ⟨i, hi, rfl⟩ := slots_mem hs
    rw [lc_of (xs := slots a n) (e := .int) (p := fun t => decide (key r ((a + i : Nat) : Int) < key r t)) (f := .int) rfl ?_ (by unfold slots; simp; omega) fun t ht => ?_]
    · rw [e_rng2 (i := a) (j := (a : Int) + n) (by simp) (lim_in (by omega)) (lim_in (by omega)), show ((a : Int) + n - a).toNat = n by omega, rangeD_slots]
    · obtain ⟨j, hj, rfl⟩ := slots_mem ht
      have k1 := key_at (r := r) (i := a + i) (by omega)
      have k2 := key_at (r := r) (i := a + j) (by omega)
      refine ⟨_, rfl, ?_, fun _ => rfl⟩
      simp [wipeS] at k1 k2 ⊢
      simp [k1, k2]
  have hlen : (slots a n).length = n := by unfold slots; simp
  simp
  refine for_seq (Q := fun o => o = .rtl ((high r a n k).map .int)) (ds := (slots a n).map .int) ?_ (fun i s => ∃ s5 s6 : Option Sl, s = [some (.sh (.list (r.map .int))), some (.sh (.int a)), some (.sh (.int n)), some (.sh (.int k)), some (.ow ((((slots a n).take i).filter fun s => decide (((slots a n).filter fun t => decide (key r s < key r t)).length < k)).map .int)), s5, s6, none]) ?_ ?_ ?_
  · rw [e_rng2 (i := a) (j := (a : Int) + n) (by simp) (lim_in (by omega)) (lim_in (by omega)), show ((a : Int) + n - a).toNat = n by omega, rangeD_slots]
  · exact ⟨none, none, rfl⟩
  · rintro i d s1 hd ⟨s5, s6, rfl⟩
    rw [List.getElem?_map] at hd
    obtain ⟨s, hs, rfl⟩ := Option.map_eq_some_iff.mp hd
    have hsm : s ∈ slots a n := List.mem_of_getElem? hs
    refine ⟨_, rfl, ?_⟩
    have e1 := ef s hsm (some (.ow ((((slots a n).take i).filter fun s => decide (((slots a n).filter fun t => decide (key r s < key r t)).length < k)).map .int))) s6
    have hfl : ((slots a n).filter fun t => decide (key r s < key r t)).length ≤ n := Nat.le_trans (List.length_filter_le _ _) (by omega)
    have hal : (((slots a n).take i).filter fun s => decide (((slots a n).filter fun t => decide (key r s < key r t)).length < k)).length < 100000 := by
      have h1 := List.length_filter_le (fun s => decide (((slots a n).filter fun t => decide (key r s < key r t)).length < k)) ((slots a n).take i)
      rw [List.length_take] at h1
      omega
    have tk : (slots a n).take (i + 1) = (slots a n).take i ++ [s] := by rw [List.take_add_one, hs]; rfl
    rw [tk, List.filter_append]
    simp [e1]
    by_cases hc : ((slots a n).filter fun t => decide (key r s < key r t)).length < k
    · simp [hc, hal]
    · simp [hc]
  · rintro s1 ⟨s5, s6, rfl⟩
    rw [List.length_map, List.take_length]
    rfl
theorem sortR {L : List Int} {f : Int → Int} : sortByR true (L.map .int) (L.map fun x => PyData.int (f x)) = (L.mergeSort fun a b => decide (f b ≤ f a)).map .int := by
  have z : (L.map PyData.int).zip (L.map fun x => PyData.int (f x)) = L.map fun x => (PyData.int x, PyData.int (f x)) := by
    rw [List.zip_map', ]
  unfold sortByR
  rw [z]
  have e := List.map_mergeSort (f := fun x : Int => (PyData.int x, PyData.int (f x))) (r := fun a b => decide (f b ≤ f a)) (s := W.dataLe true fun b : D × D => b.2) (l := L) fun a _ b _ => by
    have := congrFun (congrFun (W.dataGe_int f) a) b
    exact this.symm
  rw [← e, List.map_map]
  rfl
theorem keys_ok {rk : D} {r : List Int} (hrk : ∀ i : Nat, i < r.length → fIx rk (.int (i : Nat)) = some (.int (key r (i : Nat)))) : ∀ {L : List Int}, (∀ x ∈ L, ∃ i : Nat, i < r.length ∧ x = (i : Nat)) → keysCp 2 [rk] (m2 fIx (mVarB 1) (mVarB 0)) (L.map .int) = some (L.map fun x => .int (key r x))
  | [], _ => rfl
  | x :: L, h => by
    obtain ⟨i, hi, e⟩ := h x List.mem_cons_self
    have ih := keys_ok hrk (L := L) fun y hy => h y (List.mem_cons_of_mem _ hy)
    have e1 : m2 fIx (mVarB 1) (mVarB 0) (startS 2 [.int x, rk]) = some (.int (key r x)) := by
      subst e
      exact hrk i hi
    show ((m2 fIx (mVarB 1) (mVarB 0) (startS 2 [.int x, rk])).bind fun k => (keysCp 2 [rk] (m2 fIx (mVarB 1) (mVarB 0)) (L.map .int)).map (k :: ·)) = _
    rw [e1, ih]
    rfl
theorem steeps_ok {rk : D} {r : List Int} {a n k : Nat} (hrk : rk = .list (r.map .int) ∨ rk = .tuple (r.map .int)) (nd : r.Nodup) (h : a + n ≤ r.length) (hn : r.length ≤ 1000) (hk : k ≤ n) : m_ranked_steeps [rk, .int a, .int n, .int k] = .rtl ((high r a n k).map .int) := by
  have h1 : ∀ i : Nat, i < r.length → fIx rk (.int (i : Nat)) = some (.int (key r (i : Nat))) := fun i hi => by
    rcases hrk with rfl | rfl
    · exact key_at hi
    · exact key_at hi
  have h2 := keys_ok h1 (L := slots a n) fun x hx => by
    obtain ⟨i, hi, e⟩ := slots_mem hx
    exact ⟨a + i, by omega, e⟩
  have hal : alikeAllB ((slots a n).map fun x => PyData.int (key r x)) = true := by unfold alikeAllB; simp [List.all_map, W.alike]
  have hso : sortB ((slots a n).map fun x => PyData.int (key r x)) = true := by unfold sortB; simp [List.all_map]
  have hdp : ∀ L : List Int, PyData.depthAll (L.map fun x => PyData.int (key r x)) ≤ 60 := fun L => by
    induction L with
    | nil => simp [PyData.depthAll]
    | cons x L ih => rw [List.map_cons, PyData.depthAll]; simp [PyData.depth, ih]
  have hfl : ∀ L : List Int, flatD.go (L.map fun x => PyData.int (key r x)) = true := fun L => by
    induction L with
    | nil => rfl
    | cons x L ih => rw [List.map_cons, flatD.go, ih]; rfl
  have e1 : mSortG true 2 [0] (m2 fIx (mVarB 1) (mVarB 0)) (iRange2 (mCons (mVarB 1) (mCons (m2 fAdd (mVarB 1) (mVarB 2)) mNil))) [some (.sh rk), some (.sh (.int a)), some (.sh (.int n)), some (.sh (.int k)), none] = some (((slots a n).mergeSort fun x y => decide (key r y ≤ key r x)).map .int) := by
    unfold mSortG
    rw [e_rng2 (i := a) (j := (a : Int) + n) (by simp) (lim_in (by omega)) (lim_in (by omega)), show ((a : Int) + n - a).toNat = n by omega, rangeD_slots]
    show ((keysCp 2 [rk] (m2 fIx (mVarB 1) (mVarB 0)) ((slots a n).map .int)).bind fun ks => if alikeAllB ks = true ∧ sortB ks = true ∧ PyData.depthAll ks ≤ 60 ∧ flatD.go ks = true then some (sortByR true ((slots a n).map .int) ks) else none) = _
    rw [h2, Option.bind_some, if_pos ⟨hal, hso, hdp _, hfl _⟩, sortR]
  unfold m_ranked_steeps mFn b_ranked_steeps startS
  simp [e1]
  generalize hM : ((slots a n).mergeSort fun x y => decide (key r y ≤ key r x)) = M
  have hp : M.Perm (slots a n) := by rw [← hM]; exact List.mergeSort_perm _ _
  have hMs : M.Pairwise fun x y => key r y ≤ key r x := by
    have := List.pairwise_mergeSort (le := fun x y : Int => decide (key r y ≤ key r x)) (fun x y z h1 h2 => by simp at h1 h2 ⊢; omega) (fun x y => by simp; omega) (slots a n)
    rw [hM] at this
    exact this.imp fun h => by simpa using h
  have hcut : cutD (M.map PyData.int) none (some (k : Int)) = (M.take k).map .int := by
    have e : cutD (M.map PyData.int) none (some (k : Int)) = ((M.map PyData.int).drop 0).take (HT.sIx (M.map PyData.int).length (M.map PyData.int).length (some (k : Int)) - 0) := rfl
    have hl : M.length = n := by rw [hp.length_eq]; unfold slots; simp
    rw [e, HT.sIx_nat, List.length_map, hl, List.drop_zero, Nat.sub_zero, show min k n = k by omega, List.map_take]
  have hl : (M.take k).length ≤ 100000 := by rw [List.length_take]; omega
  rw [hcut, sorted_ints hl]
  show Out.rtl _ = _
  have hR := List.mergeSort_perm (M.take k) fun a b => decide (a ≤ b)
  have hRs : ((M.take k).mergeSort fun a b => decide (a ≤ b)).Pairwise (· ≤ ·) := by
    have := List.pairwise_mergeSort (le := fun x y : Int => decide (x ≤ y)) (fun x y z h1 h2 => by simp at h1 h2 ⊢; omega) (fun x y => by simp; omega) (M.take k)
    exact this.imp fun h => by simpa using h
  rw [TK.top slots_asc (fun x hx y hy e => ?_) hp hMs hR hRs]
  · rfl
  · obtain ⟨i, hi, rfl⟩ := slots_mem hx
    obtain ⟨j, hj, rfl⟩ := slots_mem hy
    have := key_inj nd (by omega) (by omega) e
    omega
end Toy

namespace Toy
open PySem L2 DD
/-! ### the ruler -/
/-- the digits of a size -/
def dg (n : Nat) : Nat := if n ≤ 1 then 0 else if n ≤ 2 then 1 else if n ≤ 4 then 2 else if n ≤ 8 then 3 else if n ≤ 16 then 4 else if n ≤ 32 then 5 else 6
def wbody : MS := mAug 1 (fun i j => i + j) (mC (.int 1))
def wtest : MB := mT (m2 fLt (m2 fShl (mC (.int 1)) (mVarB 1)) (mVarB 0))
theorem wtest_ok {n d : Nat} {x : Option Sl} (hd : d ≤ 64) : wtest [some (.sh (.int n)), some (.sh (.int d)), x] = some (decide ((2 : Nat) ^ d < n)) := by
  unfold wtest
  have hc : CPow 1 (d : Int) := ⟨by omega, by omega, by decide⟩
  have e : fShl (.int 1) (.int d) = some (.int ((2 : Nat) ^ d : Nat)) := by
    unfold fShl fInt
    simp only
    rw [if_pos hc]
    simp
  simp [e]
  constructor <;> intro h <;> (first | exact_mod_cast h | omega)
theorem wbody_ok {n d : Nat} {x : Option Sl} : wbody [some (.sh (.int n)), some (.sh (.int d)), x] = .nx [some (.sh (.int n)), some (.sh (.int ((d + 1 : Nat) : Int))), x] := by
  unfold wbody mAug
  simp [mVar, intOf]
theorem while_stop {n d f : Nat} {x : Option Sl} (hd : d ≤ 64) (h : n ≤ 2 ^ d) : mWhile wtest wbody (f + 1) [some (.sh (.int n)), some (.sh (.int d)), x] = .nx [some (.sh (.int n)), some (.sh (.int d)), x] := by
  unfold mWhile
  rw [wtest_ok hd, show decide ((2 : Nat) ^ d < n) = false by simp; omega]
  rfl
theorem while_go {n d f : Nat} {x : Option Sl} (hd : d ≤ 64) (h : 2 ^ d < n) : mWhile wtest wbody (f + 1) [some (.sh (.int n)), some (.sh (.int d)), x] = mWhile wtest wbody f [some (.sh (.int n)), some (.sh (.int ((d + 1 : Nat) : Int))), x] := by
  conv => lhs; unfold mWhile
  rw [wtest_ok hd, show decide ((2 : Nat) ^ d < n) = true by simp; omega]
  show (match wbody [some (.sh (.int n)), some (.sh (.int d)), x] with
      | .nx s' => mWhile wtest wbody f s'
      | .ct s' => mWhile wtest wbody f s'
      | .bk s' => .nx s'
      | .rt d => .rt d
      | .rtl ds => .rtl ds
      | .ex c fs => .ex c fs
      | .no => .no) = _
  rw [wbody_ok]
theorem while_ok {n : Nat} (h : n ≤ 64) {x : Option Sl} : mWhile wtest wbody 10000 [some (.sh (.int n)), some (.sh (.int 0)), x] = .nx [some (.sh (.int n)), some (.sh (.int (dg n : Nat))), x] := by
  unfold dg
  have s0 : ∀ x, mWhile wtest wbody 10000 [some (.sh (.int n)), some (.sh (.int 0)), x] = mWhile wtest wbody (9999 + 1) [some (.sh (.int n)), some (.sh (.int ((0 : Nat) : Int))), x] := fun _ => rfl
  rw [s0]
  split
  · exact while_stop (by decide) (by simpa using ‹n ≤ 1›)
  rw [while_go (by decide) (by simp; omega)]
  split
  · exact while_stop (f := 9998) (by decide) (by simpa using ‹n ≤ 2›)
  rw [while_go (f := 9998) (by decide) (by simp; omega)]
  split
  · exact while_stop (f := 9997) (by decide) (by simpa using ‹n ≤ 4›)
  rw [while_go (f := 9997) (by decide) (by simp; omega)]
  split
  · exact while_stop (f := 9996) (by decide) (by simpa using ‹n ≤ 8›)
  rw [while_go (f := 9996) (by decide) (by simp; omega)]
  split
  · exact while_stop (f := 9995) (by decide) (by simpa using ‹n ≤ 16›)
  rw [while_go (f := 9995) (by decide) (by simp; omega)]
  split
  · exact while_stop (f := 9994) (by decide) (by simpa using ‹n ≤ 32›)
  rw [while_go (f := 9994) (by decide) (by simp; omega)]
  exact while_stop (f := 9993) (by decide) (by simp; omega)
def mst (p : Nat × Nat) : Nat × Nat := (p.1 / 2, 2 * p.2 + p.1 % 2)
def mit : Nat → Nat × Nat → Nat × Nat
  | 0, p => p
  | i + 1, p => mst (mit i p)
theorem mirrored_ok (s d : Nat) (hs : s ≤ 1000) (hd : d ≤ 10) : m__mirrored [.int s, .int d] = .rt (.int ((mit d (s, 0)).2 : Nat)) := by
  unfold m__mirrored mFn b__mirrored startS
  simp
  have hb : ∀ i, i ≤ 10 → (mit i (s, 0)).1 ≤ 1000 ∧ (mit i (s, 0)).2 < 2 ^ i := fun i => by
    induction i with
    | zero => intro _; exact ⟨hs, by simp [mit]⟩
    | succ i ih =>
      intro hi
      obtain ⟨h1, h2⟩ := ih (by omega)
      refine ⟨?_, ?_⟩
      · show (mit i (s, 0)).1 / 2 ≤ 1000
        omega
      · show 2 * (mit i (s, 0)).2 + (mit i (s, 0)).1 % 2 < 2 ^ (i + 1)
        rw [Nat.pow_succ]
        omega
  refine for_seq (Q := fun o => o = .rt (.int ((mit d (s, 0)).2 : Nat))) (ds := rangeD 0 d) ?_ (fun i st => ∃ x3 : Option Sl, i ≤ d ∧ st = [some (.sh (.int ((mit i (s, 0)).1 : Nat))), some (.sh (.int d)), some (.sh (.int ((mit i (s, 0)).2 : Nat))), x3]) ?_ ?_ ?_
  · rw [e_rng1 (n := d) (by simp) (lim_in (by omega))]; rfl
  · exact ⟨none, Nat.zero_le _, rfl⟩
  · rintro i e s1 he ⟨x3, hi, rfl⟩
    obtain ⟨hlt, rfl⟩ := range_get0 he
    refine ⟨_, rfl, ?_⟩
    obtain ⟨h1, h2⟩ := hb i (by omega)
    have h3 : (2 : Nat) ^ i ≤ 2 ^ 10 := Nat.pow_le_pow_right (by decide) (by omega)
    have e1 : mit (i + 1) (s, 0) = ((mit i (s, 0)).1 / 2, 2 * (mit i (s, 0)).2 + (mit i (s, 0)).1 % 2) := rfl
    rw [e1]
    simp [f_mul, f_mod, f_div]
    omega
  · rintro s1 ⟨x3, hi, rfl⟩
    rw [range_len]
    simp
end Toy

namespace Toy
open PySem L2 DD
/-! ### the law's own ruler -/
def pw (n : Nat) : Nat → Nat
  | 0 => 1
  | i + 1 => if pw n i < n then pw n i * 2 else pw n i
theorem pw8 : ∀ n, n < 65 → pw n 8 = 2 ^ dg n := by decide +kernel
theorem dg_le (n : Nat) : dg n ≤ 6 := by unfold dg; repeat (first | (split; · omega) | omega)
def rst (p : Nat × Nat × Nat) : Nat × Nat × Nat := (p.1 / 2, p.2.1 + p.1 % 2 * p.2.2, p.2.2 / 2)
def rit : Nat → Nat × Nat × Nat → Nat × Nat × Nat
  | 0, p => p
  | i + 1, p => rst (rit i p)
theorem rit8 : ∀ d, d < 7 → ∀ s, s < 64 → (rit 8 (s, 0, 2 ^ d / 2)).2.1 = (mit d (s, 0)).2 := by decide +kernel
def mir (n s : Nat) : Nat := (mit (dg n) (s, 0)).2
theorem mir_inj : ∀ d, d < 7 → ∀ s, s < 2 ^ d → ∀ t, t < 2 ^ d → (mit d (s, 0)).2 = (mit d (t, 0)).2 → s = t := by decide +kernel
def rul (n : Nat) : List Nat := (List.range n).map fun s => ((List.range n).filter fun t => decide (mir n t < mir n s)).length
theorem m2_of {f : D → D → Option D} {a b : M} {s : DD.S} {x y : D} (ha : a s = some x) (hb : b s = some y) : m2 f a b s = f x y := by
  unfold m2
  rw [ha, hb]
  rfl
theorem num_ok {s0 s1 s2 s3 s4 s8 s9 : Option Sl} {a b c : Nat} : m2 fAdd (mVarB 6) (m2 fMul (m2 fMod (mBi fInt1 (mCons (mVarB 5) mNil)) (mC (PyData.int 2))) (mVarB 7)) [s0, s1, s2, s3, s4, some (.sh (.int a)), some (.sh (.int b)), some (.sh (.int c)), s8, s9] = some (.int ((b : Int) + (a : Int) % 2 * c)) := by
  have h1 : mBi fInt1 (mCons (mVarB 5) mNil) [s0, s1, s2, s3, s4, some (.sh (.int a)), some (.sh (.int b)), some (.sh (.int c)), s8, s9] = some (.int a) := rfl
  have h2 : fMod (.int a) (.int 2) = some (.int ((a : Int) % 2)) := f_mod (by omega)
  have h3 : fMul (.int ((a : Int) % 2)) (.int c) = some (.int ((a : Int) % 2 * c)) := f_mulM (by omega)
  have g2 := (m2_of (f := fMod) h1 (show mC (PyData.int 2) _ = some (.int 2) from rfl)).trans h2
  have g3 := (m2_of (f := fMul) g2 (show mVarB 7 _ = some (.int c) from rfl)).trans h3
  exact (m2_of (f := fAdd) (show mVarB 6 _ = some (.int b) from rfl) g3).trans f_add
theorem body_ok {s0 s1 s2 s3 s4 s8 s9 : Option Sl} {a b c : Nat} : mSeq (mAsg 6 (m2 fAdd (mVarB 6) (m2 fMul (m2 fMod (mBi fInt1 (mCons (mVarB 5) mNil)) (mC (PyData.int 2))) (mVarB 7))))
                      (mSeq (mAsg 5 (m2 fDiv (mVarB 5) (mC (PyData.int 2)))) (mAsg 7 (m2 fDiv (mVarB 7) (mC (PyData.int 2))))) [s0, s1, s2, s3, s4, some (.sh (.int a)), some (.sh (.int b)), some (.sh (.int c)), s8, s9]
      = .nx [s0, s1, s2, s3, s4, some (.sh (.int ((a / 2 : Nat) : Int))), some (.sh (.int ((b : Int) + (a : Int) % 2 * c))), some (.sh (.int ((c / 2 : Nat) : Int))), s8, s9] := by
  have g := num_ok (s0 := s0) (s1 := s1) (s2 := s2) (s3 := s3) (s4 := s4) (s8 := s8) (s9 := s9) (a := a) (b := b) (c := c)
  generalize (m2 fAdd (mVarB 6) (m2 fMul (m2 fMod (mBi fInt1 (mCons (mVarB 5) mNil)) (mC (PyData.int 2))) (mVarB 7))) = m at g ⊢
  generalize (b : Int) + (a : Int) % 2 * c = z at g ⊢
  simp [g, f_div]
theorem cast_ok {a b c : Nat} : ((b + a % 2 * c : Nat) : Int) = (b : Int) + (a : Int) % 2 * c := by
  rw [Int.natCast_add, Int.natCast_mul, Int.natCast_emod]
  rfl
/-- the eight steps of one slot -/
theorem inner_ok {n p s w : Nat} {x2 x4 : Option Sl} {L : List D} {q : Nat → Nat × Nat × Nat} (q0 : q 0 = (s, 0, w)) (qs : ∀ i, q (i + 1) = rst (q i)) :
    ∃ x2' x5 x7 : Option Sl, mForS (iRange1 (mCons (mC (PyData.int 8)) mNil)) (gN 2)
                    (mSeq
                      (mAsg 6
                        (m2 fAdd (mVarB 6)
                          (m2 fMul (m2 fMod (mBi fInt1 (mCons (mVarB 5) mNil)) (mC (PyData.int 2))) (mVarB 7))))
                      (mSeq (mAsg 5 (m2 fDiv (mVarB 5) (mC (PyData.int 2))))
                        (mAsg 7 (m2 fDiv (mVarB 7) (mC (PyData.int 2)))))) [some (.sh (.int n)), some (.sh (.int p)), x2, some (.ow L), x4, some (.sh (.int s)), some (.sh (.int 0)), some (.sh (.int w)), none, none]
      = .nx [some (.sh (.int n)), some (.sh (.int p)), x2', some (.ow L), x4, x5, some (.sh (.int ((q 8).2.1 : Nat))), x7, none, none] := by
  refine for_last (Q := fun o => ∃ x2' x5 x7 : Option Sl, o = .nx [some (.sh (.int n)), some (.sh (.int p)), x2', some (.ow L), x4, x5, some (.sh (.int ((q 8).2.1 : Nat))), x7, none, none]) (ds := rangeD 0 8) ?_ (fun i st => ∃ x2 : Option Sl, st = [some (.sh (.int n)), some (.sh (.int p)), x2, some (.ow L), x4, some (.sh (.int ((q i).1 : Nat))), some (.sh (.int ((q i).2.1 : Nat))), some (.sh (.int ((q i).2.2 : Nat))), none, none]) ?_ ?_ ?_
  · rw [e_rng1 (n := 8) (by simp) (lim_in (by omega))]; rfl
  · rw [q0]; exact ⟨x2, rfl⟩
  · rintro i e s1 he ⟨x2, rfl⟩
    obtain ⟨hlt, rfl⟩ := range_get0 he
    refine ⟨_, rfl, ?_⟩
    rw [show q (i + 1) = ((q i).1 / 2, (q i).2.1 + (q i).1 % 2 * (q i).2.2, (q i).2.2 / 2) from qs i]
    show DD.Turn _ _ _ (mSeq _ _ [_, _, _, _, _, some (.sh (.int (((q i).1 : Nat) : Int))), some (.sh (.int (((q i).2.1 : Nat) : Int))), some (.sh (.int (((q i).2.2 : Nat) : Int))), _, _])
    rw [body_ok]
    exact ⟨some (.sh (.int (i : Nat))), by rw [cast_ok]⟩
  · rintro s1 ⟨x2, rfl⟩
    rw [range_len]
    exact ⟨_, _, _, rfl⟩
theorem count_ok {n : Nat} (hn : n ≤ 64) {p : Int} {f : Nat → Nat} {x2 x4 x5 x6 x7 x8 : Option Sl} {s : Nat} (hs : s < n) : mLc (iSeq (mVar 3)) (gN 9) (mT (m2 fLt (mVarB 9) (m2 fIx (mVarB 3) (mVarB 8)))) (mVar 9) [9] [some (.sh (.int n)), some (.sh (.int p)), x2, some (.sh (.list ((List.range n).map fun s => .int (f s : Nat)))), x4, x5, x6, x7, some (.sh (.int (s : Nat))), none] = some (((List.range n).filter fun t => decide (f t < f s)).map fun t => .int (f t : Nat)) := by
  rw [lc_of (xs := List.range n) (e := fun k => .int (f k : Nat)) (p := fun t => decide (f t < f s)) (f := fun t => .int (f t : Nat)) rfl rfl (by simp; omega) fun t ht => ⟨_, rfl, ?_, fun _ => rfl⟩]
  have hix : L2.atI ((List.range n).map fun s => PyData.int (f s : Nat)) (s : Int) = some (.int (f s : Nat)) := atI_nat' (by omega) (by simp [hs])
  simp [wipeS, hix]
end Toy

namespace Toy
open PySem L2 DD
theorem pow_ok {n p : Nat} {x2 x3 x4 x5 x6 x7 x8 x9 : Option Sl} : mIfS (mT (m2 fLt (mVarB 1) (mVarB 0))) (mAsg 1 (m2 fMul (mVarB 1) (mC (PyData.int 2)))) mNext [some (.sh (.int n)), some (.sh (.int p)), x2, x3, x4, x5, x6, x7, x8, x9]
      = .nx [some (.sh (.int n)), some (.sh (.int ((if p < n then p * 2 else p : Nat) : Int))), x2, x3, x4, x5, x6, x7, x8, x9] := by
  have g : m2 fMul (mVarB 1) (mC (PyData.int 2)) [some (.sh (.int n)), some (.sh (.int p)), x2, x3, x4, x5, x6, x7, x8, x9] = some (.int ((p * 2 : Nat) : Int)) := by
    rw [Int.natCast_mul]
    exact (m2_of (f := fMul) (show mVarB 1 _ = some (.int p) from rfl) (show mC (PyData.int 2) _ = some (.int 2) from rfl)).trans (f_mulR (by omega))
  generalize m2 fMul (mVarB 1) (mC (PyData.int 2)) = m at g ⊢
  by_cases h : p < n
  · rw [if_pos h]; simp [h, g]
  · rw [if_neg h]; simp [h]
theorem pw_ok {n : Nat} {x2 x3 x4 x5 x6 x7 x8 x9 : Option Sl} : ∃ x2' : Option Sl, mForS (iRange1 (mCons (mC (PyData.int 8)) mNil)) (gN 2) (mIfS (mT (m2 fLt (mVarB 1) (mVarB 0))) (mAsg 1 (m2 fMul (mVarB 1) (mC (PyData.int 2)))) mNext) [some (.sh (.int n)), some (.sh (.int 1)), x2, x3, x4, x5, x6, x7, x8, x9]
      = .nx [some (.sh (.int n)), some (.sh (.int ((pw n 8 : Nat) : Int))), x2', x3, x4, x5, x6, x7, x8, x9] := by
  have hs := fun (p : Nat) (x2 : Option Sl) => pow_ok (n := n) (p := p) (x2 := x2) (x3 := x3) (x4 := x4) (x5 := x5) (x6 := x6) (x7 := x7) (x8 := x8) (x9 := x9)
  generalize mIfS (mT (m2 fLt (mVarB 1) (mVarB 0))) (mAsg 1 (m2 fMul (mVarB 1) (mC (PyData.int 2)))) mNext = B at hs ⊢
  refine for_last (Q := fun o => ∃ x2' : Option Sl, o = .nx [some (.sh (.int n)), some (.sh (.int ((pw n 8 : Nat) : Int))), x2', x3, x4, x5, x6, x7, x8, x9]) (ds := rangeD 0 8) ?_ (fun i st => ∃ x2 : Option Sl, st = [some (.sh (.int n)), some (.sh (.int ((pw n i : Nat) : Int))), x2, x3, x4, x5, x6, x7, x8, x9]) ?_ ?_ ?_
  · rw [e_rng1 (n := 8) (by simp) (lim_in (by omega))]; rfl
  · exact ⟨x2, rfl⟩
  · rintro i e s1 he ⟨x2, rfl⟩
    refine ⟨_, rfl, ?_⟩
    show DD.Turn _ _ _ (B [_, some (.sh (.int (((pw n i : Nat)) : Int))), _, _, _, _, _, _, _, _])
    rw [hs]
    exact ⟨_, rfl⟩
  · rintro s1 ⟨x2, rfl⟩
    rw [range_len]
    exact ⟨_, rfl⟩
theorem seq_nx {a b : MS} {s s' : DD.S} (h : a s = .nx s') : mSeq a b s = b s' := by
  unfold mSeq
  rw [h]
/-- one slot -/
theorem slot_ok {n p s : Nat} {x2 x5 x6 x7 : Option Sl} {L : List D} (hl : L.length < 100000) {q : Nat → Nat × Nat × Nat} (q0 : q 0 = (s, 0, p / 2)) (qs : ∀ i, q (i + 1) = rst (q i)) :
    ∃ x2' x5' x6' x7' : Option Sl, (mSeq (mAsg 5 (mVar 4))
  (mSeq (mAsg 6 (mC (.int 0)))
  (mSeq (mAsg 7 (m2 fDiv (mVarB 1) (mC (.int 2))))
  (mSeq (mForS (iRange1 (mCons (mC (.int 8)) mNil)) (gN 2)
  (mSeq (mAsg 6 (m2 fAdd (mVarB 6) (m2 fMul (m2 fMod (mBi fInt1 (mCons (mVarB 5) mNil)) (mC (.int 2))) (mVarB 7))))
  (mSeq (mAsg 5 (m2 fDiv (mVarB 5) (mC (.int 2))))
  (mAsg 7 (m2 fDiv (mVarB 7) (mC (.int 2)))))))
  (mApp 3 (mVar 6)))))) [some (.sh (.int n)), some (.sh (.int p)), x2, some (.ow L), some (.sh (.int s)), x5, x6, x7, none, none]
      = .nx [some (.sh (.int n)), some (.sh (.int p)), x2', some (.ow (L ++ [.int ((q 8).2.1 : Nat)])), some (.sh (.int s)), x5', x6', x7', none, none] := by
  obtain ⟨x2', x5', x7', h⟩ := inner_ok (n := n) (p := p) (s := s) (w := p / 2) (x2 := x2) (x4 := some (.sh (.int s))) (L := L) q0 qs
  refine ⟨x2', x5', some (.sh (.int ((q 8).2.1 : Nat))), x7', ?_⟩
  have ep : ((p / 2 : Nat) : Int) = (p : Int) / 2 := by omega
  have hd : m2 fDiv (mVarB 1) (mC (PyData.int 2)) [some (.sh (.int n)), some (.sh (.int p)), x2, some (.ow L), some (.sh (.int s)), some (.sh (.int s)), some (.sh (.int 0)), x7, none, none] = some (.int ((p / 2 : Nat) : Int)) := by
    rw [ep]
    exact (m2_of (f := fDiv) (show mVarB 1 _ = some (.int p) from rfl) (show mC (PyData.int 2) _ = some (.int 2) from rfl)).trans (f_div (by omega))
  generalize (mForS (iRange1 (mCons (mC (PyData.int 8)) mNil)) (gN 2)  (mSeq (mAsg 6 (m2 fAdd (mVarB 6) (m2 fMul (m2 fMod (mBi fInt1 (mCons (mVarB 5) mNil)) (mC (PyData.int 2))) (mVarB 7))))  (mSeq (mAsg 5 (m2 fDiv (mVarB 5) (mC (PyData.int 2))))  (mAsg 7 (m2 fDiv (mVarB 7) (mC (PyData.int 2))))))) = I at h ⊢
  generalize m2 fDiv (mVarB 1) (mC (PyData.int 2)) = dv at hd ⊢
  generalize (q 8).2.1 = z at h ⊢
  generalize p / 2 = p2 at h hd ⊢
  have e1 : mAsg 5 (mVar 4) [some (.sh (.int n)), some (.sh (.int p)), x2, some (.ow L), some (.sh (.int s)), x5, x6, x7, none, none] = .nx [some (.sh (.int n)), some (.sh (.int p)), x2, some (.ow L), some (.sh (.int s)), some (.sh (.int s)), x6, x7, none, none] := rfl
  have e2 : mAsg 6 (mC (PyData.int 0)) [some (.sh (.int n)), some (.sh (.int p)), x2, some (.ow L), some (.sh (.int s)), some (.sh (.int s)), x6, x7, none, none] = .nx [some (.sh (.int n)), some (.sh (.int p)), x2, some (.ow L), some (.sh (.int s)), some (.sh (.int s)), some (.sh (.int 0)), x7, none, none] := rfl
  have e3 : mAsg 7 dv [some (.sh (.int n)), some (.sh (.int p)), x2, some (.ow L), some (.sh (.int s)), some (.sh (.int s)), some (.sh (.int 0)), x7, none, none] = .nx [some (.sh (.int n)), some (.sh (.int p)), x2, some (.ow L), some (.sh (.int s)), some (.sh (.int s)), some (.sh (.int 0)), some (.sh (.int p2)), none, none] := by unfold mAsg; rw [hd]; rfl
  have e4 : mApp 3 (mVar 6) [some (.sh (.int n)), some (.sh (.int p)), x2', some (.ow L), some (.sh (.int s)), x5', some (.sh (.int z)), x7', none, none] = .nx [some (.sh (.int n)), some (.sh (.int p)), x2', some (.ow (L ++ [.int z])), some (.sh (.int s)), x5', some (.sh (.int z)), x7', none, none] := by simp [hl]
  exact (seq_nx e1).trans ((seq_nx e2).trans ((seq_nx e3).trans ((seq_nx h).trans e4)))
end Toy

namespace Toy
open PySem L2 DD
/-! ### the ranking of keys -/
def kp (r : List Int) (x : Int) : D := .tuple [.int (key r x), .int x]
theorem keys_by {r : List Int} : ∀ {L : List Int}, (∀ x ∈ L, ∃ i : Nat, i < r.length ∧ x = (i : Nat)) → keysCp 2 [.list (r.map .int)] (mTup (mCons (m2 fIx (mVarB 1) (mVarB 0)) (mCons (mVar 0) mNil))) (L.map .int) = some (L.map (kp r))
  | [], _ => rfl
  | x :: L, h => by
    obtain ⟨i, hi, e⟩ := h x List.mem_cons_self
    have ih := keys_by (r := r) (L := L) fun y hy => h y (List.mem_cons_of_mem _ hy)
    have e0 : m2 fIx (mVarB 1) (mVarB 0) (startS 2 [.int x, .list (r.map .int)]) = some (.int (key r x)) := by
      subst e
      exact key_at hi
    have e1 : mTup (mCons (m2 fIx (mVarB 1) (mVarB 0)) (mCons (mVar 0) mNil)) (startS 2 [.int x, .list (r.map .int)]) = some (kp r x) := by
      generalize m2 fIx (mVarB 1) (mVarB 0) = m at e0 ⊢
      unfold kp
      simp [startS] at e0 ⊢
      simp [e0]
    show ((mTup (mCons (m2 fIx (mVarB 1) (mVarB 0)) (mCons (mVar 0) mNil)) (startS 2 [.int x, .list (r.map .int)])).bind fun k => (keysCp 2 [.list (r.map .int)] (mTup (mCons (m2 fIx (mVarB 1) (mVarB 0)) (mCons (mVar 0) mNil))) (L.map .int)).map (k :: ·)) = _
    rw [e1, ih]
    rfl
def leK (r : List Int) (x y : Int) : Bool := W.dataLe false (fun b : D × D => b.2) (.int x, kp r x) (.int y, kp r y)
theorem sortK {r L : List Int} : sortByR false (L.map .int) (L.map (kp r)) = (L.mergeSort (leK r)).map .int := by
  have z : (L.map PyData.int).zip (L.map (kp r)) = L.map fun x => (PyData.int x, kp r x) := by
    rw [List.zip_map', ]
  unfold sortByR
  rw [z]
  have e := List.map_mergeSort (f := fun x : Int => (PyData.int x, kp r x)) (r := leK r) (s := W.dataLe false fun b : D × D => b.2) (l := L) fun a _ b _ => rfl
  rw [← e, List.map_map]
  rfl
theorem leK_eq {r : List Int} {x y : Int} : leK r x y = decide (key r x < key r y ∨ key r x = key r y ∧ x ≤ y) :=
  congrFun (congrFun (W.dataLe_ii (key r) fun x : Int => x) x) y
theorem slots_len {a n : Nat} : (slots a n).length = n := by unfold slots; simp
theorem srt_ok {r : List Int} (hn : r.length ≤ 100) {x1 x2 x3 x4 : Option Sl} : mSortG false 2 [0] (mTup (mCons (m2 fIx (mVarB 1) (mVarB 0)) (mCons (mVar 0) mNil))) (iRange1 (mCons (mBi fLen (mCons (mVarB 0) mNil)) mNil)) [some (.sh (.list (r.map .int))), x1, x2, x3, x4]
    = some (((slots 0 r.length).mergeSort (leK r)).map .int) := by
  have h2 := keys_by (r := r) (L := slots 0 r.length) fun x hx => by
    obtain ⟨i, hi, e⟩ := slots_mem hx
    exact ⟨0 + i, by omega, e⟩
  have hal : ∀ L : List Int, alikeAllB (L.map (kp r)) = true := fun L => by unfold alikeAllB; simp [List.all_map, W.alike, W.alikeAll, kp]
  have hso : ∀ L : List Int, sortB (L.map (kp r)) = true := fun L => by unfold sortB; simp [List.all_map, kp]
  have hdp : ∀ L : List Int, PyData.depthAll (L.map (kp r)) ≤ 60 := fun L => by
    induction L with
    | nil => simp [PyData.depthAll]
    | cons x L ih => rw [List.map_cons, PyData.depthAll]; simp [kp, PyData.depth, PyData.depthAll]; omega
  have hfl : ∀ L : List Int, flatD.go (L.map (kp r)) = true := fun L => by
    induction L with
    | nil => rfl
    | cons x L ih => rw [List.map_cons, flatD.go, ih]; rfl
  have hr : iRange1 (mCons (mBi fLen (mCons (mVarB 0) mNil)) mNil) [some (.sh (.list (r.map .int))), x1, x2, x3, x4] = some ((slots 0 r.length).map .int) := by
    rw [e_rng1 (n := r.length) (by simp) (lim_in (by omega)), Int.toNat_natCast, ← rangeD_slots]
    rfl
  unfold mSortG
  rw [hr]
  show ((keysCp 2 [.list (r.map .int)] (mTup (mCons (m2 fIx (mVarB 1) (mVarB 0)) (mCons (mVar 0) mNil))) ((slots 0 r.length).map .int)).bind fun ks => if alikeAllB ks = true ∧ sortB ks = true ∧ PyData.depthAll ks ≤ 60 ∧ flatD.go ks = true then some (sortByR false ((slots 0 r.length).map .int) ks) else none) = _
  rw [h2, Option.bind_some, if_pos ⟨hal _, hso _, hdp _, hfl _⟩, sortK]
/-- how many keys are less -/
def less (r : List Int) (s : Nat) : Nat := ((slots 0 r.length).filter fun t => decide (key r t < key r (s : Nat))).length
theorem sorted_facts {r : List Int} (nd : r.Nodup) : ∃ o : List Nat, (slots 0 r.length).mergeSort (leK r) = o.map (fun k : Nat => (k : Int)) ∧ o.Perm (List.range r.length) ∧ ∀ k (h : k < o.length), less r o[k] = k := by
  generalize hM : (slots 0 r.length).mergeSort (leK r) = M
  have hp : M.Perm (slots 0 r.length) := by rw [← hM]; exact List.mergeSort_perm _ _
  have hMs : M.Pairwise fun x y => key r x ≤ key r y := by
    have := List.pairwise_mergeSort (le := leK r) (fun x y z h1 h2 => by rw [leK_eq] at h1 h2 ⊢; simp at h1 h2 ⊢; omega) (fun x y => by rw [leK_eq, leK_eq]; simp; omega) (slots 0 r.length)
    rw [hM] at this
    exact this.imp fun h => by rw [leK_eq] at h; simp at h; omega
  have ndM : M.Nodup := hp.nodup_iff.mpr (slots_asc.imp fun h e => by omega)
  have mem : ∀ x ∈ M, ∃ i : Nat, i < r.length ∧ x = ((i : Nat) : Int) := fun x hx => by
    obtain ⟨i, hi, e⟩ := slots_mem (hp.mem_iff.mp hx)
    exact ⟨0 + i, by omega, e⟩
  have hMl : M.Pairwise fun a b => (-key r b) < (-key r a) := by
    refine (List.pairwise_iff_getElem.mpr fun i j hi hj hij => ?_)
    have h1 := List.pairwise_iff_getElem.mp hMs i j hi hj hij
    have h2 : key r M[j] ≠ key r M[i] := fun e => by
      obtain ⟨a, ha, ea⟩ := mem _ (List.getElem_mem hi)
      obtain ⟨b, hb, eb⟩ := mem _ (List.getElem_mem hj)
      rw [ea, eb] at e
      have := key_inj nd hb ha e
      exact List.pairwise_iff_getElem.mp ndM i j hi hj hij (by rw [ea, eb, this])
    omega
  have eo : M = (M.map Int.toNat).map (fun k : Nat => (k : Int)) := by
    rw [List.map_map]
    conv => lhs; rw [← List.map_id M]
    refine List.map_congr_left fun x hx => ?_
    obtain ⟨i, _, rfl⟩ := mem x hx
    simp
  refine ⟨M.map Int.toNat, eo, ?_, fun k hk => ?_⟩
  · have := hp.map Int.toNat
    have e : (slots 0 r.length).map Int.toNat = List.range r.length := by
      unfold slots
      rw [List.map_map]
      conv => rhs; rw [← List.map_id (List.range r.length)]
      refine List.map_congr_left fun i _ => ?_
      simp
    rwa [e] at this
  · have hk' : k < M.length := by simpa using hk
    have := TK.place (f := fun x => -key r x) hMl k hk'
    unfold less
    rw [← (hp.filter _).length_eq]
    have e1 : (((M.map Int.toNat)[k] : Nat) : Int) = M[k] := by
      rw [List.getElem_map]
      obtain ⟨i, _, ei⟩ := mem _ (List.getElem_mem hk')
      rw [ei]
      simp
    rw [e1]
    conv => rhs; rw [← this]
    congr 1
    refine List.filter_congr fun t _ => ?_
    simp
theorem by_ok {r : List Int} (nd : r.Nodup) (hn : r.length ≤ 100) : m_ranking_by [.list (r.map .int)] = .rtl ((List.range r.length).map fun s => .int (less r s : Nat)) := by
  letI : LTb := { T := [], G := [] }
  obtain ⟨o, hM, hp, hl⟩ := sorted_facts nd
  have e2' := fun x1 x2 x3 x4 => srt_ok hn (x1 := x1) (x2 := x2) (x3 := x3) (x4 := x4)
  rw [hM] at e2'
  generalize hn' : r.length = n at *
  have hol : o.length = n := by rw [hp.length_eq, List.length_range]
  have e1 : mAsgL 1 (mRep (mLst (mCons (mC (.int 0)) mNil)) (mBi fLen (mCons (mVarB 0) mNil))) [some (.sh (.list (r.map .int))), none, none, none, none] = .nx [some (.sh (.list (r.map .int))), some (.ow ((List.replicate n (0 : Int)).map .int)), none, none, none] := by
    simp [hn', show (n : Int) ≤ 100000 by omega, show n ≤ 100000 by omega]
  have e2 : mAsgL 2 (mSortG false 2 [0] (mTup (mCons (m2 fIx (mVarB 1) (mVarB 0)) (mCons (mVar 0) mNil))) (iRange1 (mCons (mBi fLen (mCons (mVarB 0) mNil)) mNil))) [some (.sh (.list (r.map .int))), some (.ow ((List.replicate n (0 : Int)).map .int)), none, none, none] = .nx [some (.sh (.list (r.map .int))), some (.ow ((List.replicate n (0 : Int)).map .int)), some (.ow ((o.map fun k : Nat => (k : Int)).map .int)), none, none] := by
    unfold mAsgL
    rw [e2']
    rfl
  have e3 : ∃ x3 x4 : Option Sl, mForS (iEnumD (mCons (mVar 2) mNil)) (gSeq 2 (gsCons (gN 3) (gsCons (gN 4) gsNil))) (mSetIx 1 (mVarB 4) (mVar 3)) [some (.sh (.list (r.map .int))), some (.ow ((List.replicate n (0 : Int)).map .int)), some (.sh (.list ((o.map fun k : Nat => (k : Int)).map .int))), none, none]
      = .nx [some (.sh (.list (r.map .int))), some (.ow ((List.range n).map fun s => .int (less r s : Nat))), some (.sh (.list ((o.map fun k : Nat => (k : Int)).map .int))), x3, x4] := by
    refine for_last (Q := fun out => ∃ x3 x4 : Option Sl, out = .nx [some (.sh (.list (r.map .int))), some (.ow ((List.range n).map fun s => .int (less r s : Nat))), some (.sh (.list ((o.map fun k : Nat => (k : Int)).map .int))), x3, x4]) (ds := numD 0 ((o.map fun k : Nat => (k : Int)).map .int)) rfl (fun i s => ∃ (ρ : List Int) (x3 x4 : Option Sl), ρ.length = n ∧ (∀ k (hk : k < o.length), k < i → ρ[o[k]]? = some (k : Int)) ∧ s = [some (.sh (.list (r.map .int))), some (.ow (ρ.map .int)), some (.sh (.list ((o.map fun k : Nat => (k : Int)).map .int))), x3, x4]) ?_ ?_ ?_
    · exact ⟨List.replicate n 0, none, none, by simp, fun k hk z => by omega, rfl⟩
    · rintro i d s1 hd ⟨ρ, x3, x4, hrl, hr, rfl⟩
      obtain ⟨x, hx, rfl⟩ := numD_get hd
      rw [Nat.zero_add]
      have hi : i < o.length := by
        have := (List.getElem?_eq_some_iff.mp hx).1
        simpa using this
      have hxe : x = .int ((o[i] : Nat) : Int) := by
        rw [List.getElem?_map, List.getElem?_map, List.getElem?_eq_getElem hi] at hx
        exact (Option.some.inj hx).symm
      subst hxe
      refine ⟨_, rfl, ?_⟩
      have hoi : o[i] < n := List.mem_range.mp (hp.mem_iff.mp (List.getElem_mem hi))
      have hxn : ixN ρ.length ((o[i] : Nat) : Int) = some (o[i]) := by
        unfold ixN
        simp
        omega
      have e : mSetIx 1 (mVarB 4) (mVar 3) [some (.sh (.list (r.map .int))), some (.ow (ρ.map .int)), some (.sh (.list ((o.map fun k : Nat => (k : Int)).map .int))), some (.sh (.int (i : Nat))), some (.sh (.int ((o[i] : Nat) : Int)))]
          = .nx [some (.sh (.list (r.map .int))), some (.ow ((ρ.set o[i] i).map .int)), some (.sh (.list ((o.map fun k : Nat => (k : Int)).map .int))), some (.sh (.int (i : Nat))), some (.sh (.int ((o[i] : Nat) : Int)))] := by
        simp [hxn, List.map_set]
      show DD.Turn _ _ _ (mSetIx 1 (mVarB 4) (mVar 3) [some (.sh (.list (r.map .int))), some (.ow (ρ.map .int)), some (.sh (.list ((o.map fun k : Nat => (k : Int)).map .int))), some (.sh (.int (i : Nat))), some (.sh (.int ((o[i] : Nat) : Int)))])
      rw [e]
      refine ⟨ρ.set o[i] i, _, _, by simp [hrl], fun k hk hki => ?_, rfl⟩
      by_cases hke : k = i
      · subst hke
        rw [List.getElem?_set_self (by omega)]
      · have nd' : o.Nodup := hp.nodup_iff.mpr List.nodup_range
        have ne : o[i] ≠ o[k] := fun z => by
          have h1 := (List.getElem_inj nd').mp z
          omega
        rw [List.getElem?_set_ne ne]
        exact hr k hk (by omega)
    · rintro s1 ⟨ρ, x3, x4, hrl, hr, rfl⟩
      refine ⟨x3, x4, ?_⟩
      have : ρ.map PyData.int = (List.range n).map fun s => .int (less r s : Nat) := by
        refine List.ext_getElem? fun s => ?_
        by_cases hs : s < n
        · obtain ⟨k, hk, ek⟩ := List.getElem_of_mem (hp.mem_iff.mpr (List.mem_range.mpr hs))
          have h1 := hr k hk (by rw [numD_len]; simpa using hk)
          have h2 := hl k hk
          rw [ek] at h1 h2
          rw [List.getElem?_map, h1, List.getElem?_map, List.getElem?_range hs]
          simp [h2]
        · rw [List.getElem?_eq_none (by simp; omega), List.getElem?_eq_none (by simp; omega)]
      rw [this]
  obtain ⟨x3, x4, e3⟩ := e3
  show b_ranking_by [some (.sh (.list (r.map .int))), none, none, none, none] = _
  unfold b_ranking_by
  refine (seq_nx e1).trans ((seq_nx e2).trans ((seq_nx (s' := [some (.sh (.list (r.map .int))), some (.ow ((List.range n).map fun s => .int (less r s : Nat))), some (.sh (.list ((o.map fun k : Nat => (k : Int)).map .int))), x3, x4]) ?_).trans rfl))
  exact e3
end Toy

namespace Toy
open PySem L2 DD
theorem mir_of {n s : Nat} (hn : n ≤ 64) (hs : s < n) : (rit 8 (s, 0, pw n 8 / 2)).2.1 = mir n s := by
  have h := dg_le n
  rw [pw8 n (by omega)]
  exact rit8 (dg n) (by omega) s (by omega)
/-- the mirrored numbers -/
theorem slots_ok {n : Nat} (hn : n ≤ 64) {x2 : Option Sl} : ∃ x2' x4 x5 x6 x7 : Option Sl, (mForS (iRange1 (mCons (mVarB 0) mNil)) (gN 4)
  (mSeq (mAsg 5 (mVar 4))
  (mSeq (mAsg 6 (mC (.int 0)))
  (mSeq (mAsg 7 (m2 fDiv (mVarB 1) (mC (.int 2))))
  (mSeq (mForS (iRange1 (mCons (mC (.int 8)) mNil)) (gN 2)
  (mSeq (mAsg 6 (m2 fAdd (mVarB 6) (m2 fMul (m2 fMod (mBi fInt1 (mCons (mVarB 5) mNil)) (mC (.int 2))) (mVarB 7))))
  (mSeq (mAsg 5 (m2 fDiv (mVarB 5) (mC (.int 2))))
  (mAsg 7 (m2 fDiv (mVarB 7) (mC (.int 2)))))))
  (mApp 3 (mVar 6))))))) [some (.sh (.int n)), some (.sh (.int ((pw n 8 : Nat) : Int))), x2, some (.ow []), none, none, none, none, none, none]
    = .nx [some (.sh (.int n)), some (.sh (.int ((pw n 8 : Nat) : Int))), x2', some (.ow ((List.range n).map fun s => .int (mir n s : Nat))), x4, x5, x6, x7, none, none] := by
  have hs := fun (p s : Nat) (x2 x5 x6 x7 : Option Sl) (L : List D) (hl : L.length < 100000) => slot_ok (n := n) (p := p) (s := s) (x2 := x2) (x5 := x5) (x6 := x6) (x7 := x7) (L := L) hl (q := fun i => rit i (s, 0, p / 2)) rfl fun _ => rfl
  generalize (mSeq (mAsg 5 (mVar 4)) (mSeq (mAsg 6 (mC (PyData.int 0))) (mSeq (mAsg 7 (m2 fDiv (mVarB 1) (mC (PyData.int 2)))) (mSeq (mForS (iRange1 (mCons (mC (PyData.int 8)) mNil)) (gN 2) (mSeq (mAsg 6 (m2 fAdd (mVarB 6) (m2 fMul (m2 fMod (mBi fInt1 (mCons (mVarB 5) mNil)) (mC (PyData.int 2))) (mVarB 7)))) (mSeq (mAsg 5 (m2 fDiv (mVarB 5) (mC (PyData.int 2)))) (mAsg 7 (m2 fDiv (mVarB 7) (mC (PyData.int 2))))))) (mApp 3 (mVar 6)))))) = B at hs ⊢
  have hm : ∀ s, s < n → (rit 8 (s, 0, pw n 8 / 2)).2.1 = mir n s := fun s h => mir_of hn h
  generalize pw n 8 = p at hm ⊢
  replace hs := hs p
  refine for_last (Q := fun o => ∃ x2' x4 x5 x6 x7 : Option Sl, o = .nx [some (.sh (.int n)), some (.sh (.int p)), x2', some (.ow ((List.range n).map fun s => .int (mir n s : Nat))), x4, x5, x6, x7, none, none]) (ds := rangeD 0 n) ?_ (fun i st => ∃ x2 x4 x5 x6 x7 : Option Sl, st = [some (.sh (.int n)), some (.sh (.int p)), x2, some (.ow ((List.range i).map fun s => .int (mir n s : Nat))), x4, x5, x6, x7, none, none]) ?_ ?_ ?_
  · rw [e_rng1 (n := n) (by simp) (lim_in (by omega))]; rfl
  · exact ⟨x2, none, none, none, none, rfl⟩
  · rintro i e s1 he ⟨x2, x4, x5, x6, x7, rfl⟩
    obtain ⟨hlt, rfl⟩ := range_get0 he
    obtain ⟨y2, y5, y6, y7, h⟩ := hs i x2 x5 x6 x7 ((List.range i).map fun s => .int (mir n s : Nat)) (by simp; omega)
    refine ⟨_, rfl, ?_⟩
    show DD.Turn _ _ _ (B [some (.sh (.int n)), some (.sh (.int p)), x2, some (.ow ((List.range i).map fun s => .int (mir n s : Nat))), some (.sh (.int (i : Nat))), x5, x6, x7, none, none])
    rw [h]
    refine ⟨y2, some (.sh (.int (i : Nat))), y5, y6, y7, ?_⟩
    rw [List.range_succ, List.map_append, List.map_cons, List.map_nil]
    show _ = [_, _, _, some (Sl.ow (_ ++ [.int (mir n i : Nat)])), _, _, _, _, _, _]
    rw [← hm i hlt]
  · rintro s1 ⟨x2, x4, x5, x6, x7, rfl⟩
    rw [range_len]
    exact ⟨_, _, _, _, _, rfl⟩
theorem rul_ok {n : Nat} (hn : n ≤ 64) {p : Int} {x2 x4 x5 x6 x7 : Option Sl} : mRetL (mLc (iRange1 (mCons (mVarB 0) mNil)) (gN 8) mYes (mBi fLen (mCons (mL (mLc (iSeq (mVar 3)) (gN 9) (mT (m2 fLt (mVarB 9) (m2 fIx (mVarB 3) (mVarB 8)))) (mVar 9) [9])) mNil)) [8])
    [some (.sh (.int n)), some (.sh (.int p)), x2, some (.sh (.list ((List.range n).map fun s => .int (mir n s : Nat)))), x4, x5, x6, x7, none, none] = .rtl ((rul n).map fun k => .int (k : Nat)) := by
  have hc := fun (s : Nat) (hs : s < n) => count_ok hn (p := p) (f := mir n) (x2 := x2) (x4 := x4) (x5 := x5) (x6 := x6) (x7 := x7) (x8 := none) hs
  generalize mLc (iSeq (mVar 3)) (gN 9) (mT (m2 fLt (mVarB 9) (m2 fIx (mVarB 3) (mVarB 8)))) (mVar 9) [9] = lc at hc ⊢
  have e : mLc (iRange1 (mCons (mVarB 0) mNil)) (gN 8) mYes (mBi fLen (mCons (mL lc) mNil)) [8]
    [some (.sh (.int n)), some (.sh (.int p)), x2, some (.sh (.list ((List.range n).map fun s => .int (mir n s : Nat)))), x4, x5, x6, x7, none, none] = some ((rul n).map fun k => .int (k : Nat)) := by
    rw [lc_of (xs := List.range n) (e := fun k => .int (k : Nat)) (p := fun _ => true) (f := fun s => .int ((((List.range n).filter fun t => decide (mir n t < mir n s)).length : Nat) : Int)) rfl ?_ (by simp; omega) fun s hs => ⟨_, rfl, rfl, fun _ => ?_⟩]
    · rw [List.filter_eq_self.mpr (fun _ _ => rfl)]
      unfold rul
      rw [List.map_map]
      rfl
    · rw [e_rng1 (n := n) (by simp) (lim_in (by omega)), rangeD_map]
      rfl
    · have c := hc s (List.mem_range.mp hs)
      have c' : lc (List.set (wipeS [some (.sh (.int n)), some (.sh (.int p)), x2, some (.sh (.list ((List.range n).map fun s => .int (mir n s : Nat)))), x4, x5, x6, x7, none, none] [8]) 8 (some (.sh (.int (s : Nat))))) = some (((List.range n).filter fun t => decide (mir n t < mir n s)).map fun t => .int (mir n t : Nat)) := c
      simp [c']
  unfold mRetL
  rw [e]
theorem ruler_ok {n : Nat} (hn : n ≤ 64) : m__law_ruler [.int n] = .rtl ((rul n).map fun k => .int (k : Nat)) := by
  obtain ⟨y2, e2⟩ := pw_ok (n := n) (x2 := none) (x3 := none) (x4 := none) (x5 := none) (x6 := none) (x7 := none) (x8 := none) (x9 := none)
  obtain ⟨z2, z4, z5, z6, z7, e4⟩ := slots_ok hn (x2 := y2)
  have e5 := rul_ok hn (p := ((pw n 8 : Nat) : Int)) (x2 := z2) (x4 := z4) (x5 := z5) (x6 := z6) (x7 := z7)
  have e1 : mAsg 1 (mC (PyData.int 1)) [some (.sh (.int n)), none, none, none, none, none, none, none, none, none] = .nx [some (.sh (.int n)), some (.sh (.int 1)), none, none, none, none, none, none, none, none] := rfl
  have e3 : mAsgL 3 (mLst mNil) [some (.sh (.int n)), some (.sh (.int ((pw n 8 : Nat) : Int))), y2, none, none, none, none, none, none, none] = .nx [some (.sh (.int n)), some (.sh (.int ((pw n 8 : Nat) : Int))), y2, some (.ow []), none, none, none, none, none, none] := rfl
  show b__law_ruler [some (.sh (.int n)), none, none, none, none, none, none, none, none, none] = _
  unfold b__law_ruler
  exact (seq_nx e1).trans ((seq_nx e2).trans ((seq_nx e3).trans ((seq_nx e4).trans e5)))
end Toy

namespace Toy
open PySem L2 DD
theorem le_pw : ∀ n, n < 65 → n ≤ 2 ^ dg n := by decide +kernel
def mirs (n : Nat) : List Int := (List.range n).map fun s => ((mir n s : Nat) : Int)
theorem mirs_len {n : Nat} : (mirs n).length = n := by unfold mirs; simp
theorem mirs_key {n i : Nat} (h : i < n) : key (mirs n) ((i : Nat) : Int) = ((mir n i : Nat) : Int) := by
  unfold key mirs
  simp [h]
theorem mirs_nd {n : Nat} (hn : n ≤ 64) : (mirs n).Nodup := by
  have h := dg_le n
  have h2 := le_pw n (by omega)
  unfold mirs
  rw [List.nodup_iff_pairwise_ne] at *
  rw [List.pairwise_map]
  refine List.pairwise_iff_getElem.mpr fun i j hi hj hij e => ?_
  simp at hi hj e
  have := mir_inj (dg n) (by omega) i (by omega) j (by omega) (by unfold mir at e; exact_mod_cast e)
  omega
theorem less_rul {n : Nat} : ((List.range n).map fun s => PyData.int ((less (mirs n) s : Nat) : Int)) = (rul n).map fun k => .int (k : Nat) := by
  unfold rul
  rw [List.map_map]
  refine List.map_congr_left fun s hs => ?_
  have hs := List.mem_range.mp hs
  show PyData.int _ = .int _
  congr 2
  unfold less slots
  rw [mirs_len, List.filter_map, List.length_map]
  congr 1
  refine List.filter_congr fun t ht => ?_
  have ht := List.mem_range.mp ht
  simp only [Function.comp, Nat.zero_add]
  rw [mirs_key ht, mirs_key hs]
  simp
theorem ranking_ruler {n : Nat} (hn : n ≤ 64) : m_ruler_ranking [.int n] = .rtl ((rul n).map fun k => .int (k : Nat)) := by
  have h := dg_le n
  have e1 : mAsg 1 (mC (PyData.int 0)) [some (.sh (.int n)), none, none] = .nx [some (.sh (.int n)), some (.sh (.int 0)), none] := rfl
  have e2 := while_ok hn (x := none)
  have e3 : mLc (iRange1 (mCons (mVarB 0) mNil)) (gN 2) mYes (mCallB 2 m__mirrored (mCons (mVarB 2) (mCons (mVarB 1) mNil))) [2] [some (.sh (.int n)), some (.sh (.int (dg n : Nat))), none] = some ((mirs n).map .int) := by
    rw [lc_of (xs := List.range n) (e := fun k => .int (k : Nat)) (p := fun _ => true) (f := fun s => .int ((mir n s : Nat) : Int)) rfl ?_ (by simp; omega) fun s hs => ⟨_, rfl, rfl, fun _ => ?_⟩]
    · rw [List.filter_eq_self.mpr (fun _ _ => rfl)]
      unfold mirs
      rw [List.map_map]
      rfl
    · rw [e_rng1 (n := n) (by simp) (lim_in (by omega)), rangeD_map]
      rfl
    · have hs := List.mem_range.mp hs
      have m := mirrored_ok s (dg n) (by omega) (by omega)
      generalize m__mirrored = mm at m ⊢
      simp [wipeS, m, mir]
  have e4 := by_ok (mirs_nd hn) (by rw [mirs_len]; omega)
  rw [mirs_len, less_rul] at e4
  have e5 : mRetL (mCallBL 1 m_ranking_by (mCons (mL (mLc (iRange1 (mCons (mVarB 0) mNil)) (gN 2) mYes (mCallB 2 m__mirrored (mCons (mVarB 2) (mCons (mVarB 1) mNil))) [2])) mNil)) [some (.sh (.int n)), some (.sh (.int (dg n : Nat))), none] = .rtl ((rul n).map fun k => .int (k : Nat)) := by
    have fl : flatD.go ((rul n).map fun k => PyData.int (k : Nat)) = true := by
      have := flat_I ((rul n).map fun k => ((k : Nat) : Int))
      rwa [List.map_map] at this
    generalize mLc (iRange1 (mCons (mVarB 0) mNil)) (gN 2) mYes (mCallB 2 m__mirrored (mCons (mVarB 2) (mCons (mVarB 1) mNil))) [2] = lc at e3 ⊢
    generalize m_ranking_by = rb at e4 ⊢
    simp [mRetL, mCallBL, e3, e4]
    rw [lst_1, Option.bind_some, ok_1 fl]
  show b_ruler_ranking [some (.sh (.int n)), none, none] = _
  unfold b_ruler_ranking
  exact (seq_nx e1).trans ((seq_nx e2).trans e5)
theorem isint_ok {i : Int} : m__law_is_integer [.int i] = .rt (.bool true) := rfl
theorem numbers_ok {xs : List Int} (h : xs.length ≤ 1000) : m__law_is_numbers [.list (xs.map .int), .list (xs.map .int)] = .rt (.bool true) := by
  unfold m__law_is_numbers mFn b__law_is_numbers startS
  simp
  refine for_seq (Q := fun o => o = .rt (.bool true)) (ds := rangeD 0 xs.length) ?_ (fun i s => ∃ x2 : Option Sl, s = [some (.sh (.list (xs.map .int))), some (.sh (.list (xs.map .int))), x2]) ?_ ?_ ?_
  · rw [e_rng1 (n := xs.length) (by simp) (lim_in (by omega))]; rfl
  · exact ⟨none, rfl⟩
  · rintro i d s1 hd ⟨x2, rfl⟩
    obtain ⟨hi, rfl⟩ := range_get0 hd
    refine ⟨_, rfl, ?_⟩
    have hix : L2.atI (xs.map PyData.int) (i : Int) = some (.int xs[i]) := atI_nat' (by omega) (by simp)
    simp [hix, isint_ok]
  · rintro s1 ⟨x2, rfl⟩
    simp
end Toy

namespace Toy
open PySem L2 DD
def law_19 : MS :=
  (mSeq (mAsg 13 (m2 fIx (mL (mCallBL 2 m__law_draws (mCons (mCallB 2 m__law_cell (mCons (mVarB 0) (mCons (mC (.int 3)) mNil))) (mCons (mL (mLst (mCons (mC (.int 65)) mNil))) mNil)))) (mC (.int 0))))
  (mSeq (mAsgL 14 (mCallBL 1 m__law_ruler (mCons (mVarB 13) mNil)))
  (mSeq (mAsgL 10 (mCallBL 1 m_ruler_ranking (mCons (mVarB 13) mNil)))
  (mSeq (mIfS (mNot (mT (mCallB 2 m__law_is_numbers (mCons (mVarB 10) (mCons (mVarB 14) mNil))))) (mRet (mC (.bool false))) mNext)
  (mSeq (mClr 10)
  (mRet (mCallB 2 m__law_is_numbers (mCons (mL (mCallBL 1 m_ruler_ranking (mCons (mVarB 13) mNil))) (mCons (mVarB 14) mNil)))))))))
def law_11 : MS :=
  (mSeq (mAsgL 9 (mCallBL 4 m__law_highest (mCons (mVarB 3) (mCons (mVarB 5) (mCons (mVarB 6) (mCons (mVarB 7) mNil))))))
  (mSeq (mAsgL 10 (mCallBL 4 m_ranked_steeps (mCons (mVarB 8) (mCons (mVarB 5) (mCons (mVarB 6) (mCons (mVarB 7) mNil))))))
  (mSeq (mIfS (mOr (mNot (mT (mCallB 2 m__law_is_numbers (mCons (mVarB 10) (mCons (mVarB 9) mNil))))) (mT (m2 fNe (mL (iSeq (mVarB 8))) (mVarB 3)))) (mRet (mC (.bool false))) mNext)
  (mSeq (mApp 10 (m1 fNeg (mC (.int 1))))
  (mSeq (mAsgL 11 (mRevL (mVarB 3)))
  (mSeq (mAsgL 12 (mCallBL 4 m_ranked_steeps (mCons (mL (iSeq (mVarB 11))) (mCons (mVarB 5) (mCons (mVarB 6) (mCons (mVarB 7) mNil))))))
  (mSeq (mIfS (mNot (mT (mCallB 2 m__law_is_numbers (mCons (mVarB 12) (mCons (mL (mCallBL 4 m__law_highest (mCons (mVarB 11) (mCons (mVarB 5) (mCons (mVarB 6) (mCons (mVarB 7) mNil)))))) mNil))))) (mRet (mC (.bool false))) mNext)
  (mSeq (mIfS (mNot (mT (mCallB 2 m__law_is_numbers (mCons (mL (mCallBL 4 m_ranked_steeps (mCons (mVarB 8) (mCons (mVarB 5) (mCons (mVarB 6) (mCons (mVarB 7) mNil)))))) (mCons (mVarB 9) mNil))))) (mRet (mC (.bool false))) mNext)
  law_19))))))))
def law_9 : MS :=
  (mSeq (mAsgL 8 (iSeq (mVarB 3)))
  (mSeq (mIfS (mT (m2 fEq (m2 fIx (mVarB 1) (mC (.int 1))) (mC (.int 1)))) (mAsg 8 (mTupOf (mVarB 3))) mNext)
  law_11))
def law_4 : MS :=
  (mSeq (mAsg 5 (m2 fIx (mVarB 4) (mC (.int 0))))
  (mSeq (mAsg 6 (m2 fMod (mBi fInt1 (mCons (m2 fIx (mVarB 4) (mC (.int 1))) mNil)) (m2 fAdd (m2 fSub (mVarB 2) (mVarB 5)) (mC (.int 1)))))
  (mSeq (mAsg 7 (m2 fMod (mBi fInt1 (mCons (m2 fIx (mVarB 4) (mC (.int 3))) mNil)) (m2 fAdd (mVarB 6) (mC (.int 1)))))
  (mSeq (mIfS (mT (m2 fEq (m2 fIx (mVarB 4) (mC (.int 2))) (mC (.int 0)))) (mAsg 7 (mC (.int 0))) mNext)
  (mSeq (mIfS (mT (m2 fEq (m2 fIx (mVarB 4) (mC (.int 2))) (mC (.int 1)))) (mAsg 7 (mVar 6)) mNext)
  law_9)))))
theorem law_tail {L : D} {x1 x2 x3 x4 x5 x6 x7 x8 x9 x10 x11 x12 x13 x14 : Option Sl} {c : Int} (hc : m__law_cell [L, .int 3] = .rt (.int c)) : law_19 [some (.sh L), x1, x2, x3, x4, x5, x6, x7, x8, x9, x10, x11, x12, x13, x14] = .rt (.bool true) := by
  obtain ⟨p, hm, hb⟩ := lst_draws (c := c) (sizes := [65]) (by simp) (by simp)
  have b0 := hb 0 _ rfl
  obtain ⟨n, hn⟩ : ∃ n : Nat, p 0 = (n : Int) := ⟨(p 0).toNat, by omega⟩
  have hn64 : n ≤ 64 := by omega
  obtain ⟨R, hR, hl⟩ : ∃ R : List Int, ((rul n).map fun k => PyData.int (k : Nat)) = R.map .int ∧ R.length = n := ⟨(rul n).map fun k => ((k : Nat) : Int), by rw [List.map_map]; rfl, by unfold rul; simp⟩
  have h1 := ruler_ok hn64
  have h2 := ranking_ruler hn64
  rw [hR] at h1 h2
  have h3 := numbers_ok (xs := R) (by omega)
  have fl := flat_I R
  simp at hm
  unfold law_19
  generalize m__law_cell = MC at hc ⊢
  generalize m__law_draws = MD at hm ⊢
  generalize m__law_ruler = MU at h1 ⊢
  generalize m_ruler_ranking = MR at h2 ⊢
  generalize m__law_is_numbers = MN at h3 ⊢
  have g1 : mAsg 13 (m2 fIx (mL (mCallBL 2 MD (mCons (mCallB 2 MC (mCons (mVarB 0) (mCons (mC (.int 3)) mNil))) (mCons (mL (mLst (mCons (mC (.int 65)) mNil))) mNil)))) (mC (.int 0))) [some (.sh L), x1, x2, x3, x4, x5, x6, x7, x8, x9, x10, x11, x12, x13, x14]
      = .nx [some (.sh L), x1, x2, x3, x4, x5, x6, x7, x8, x9, x10, x11, x12, some (.sh (.int n)), x14] := by
    simp [hc, hm, atI_dl, hn]
  have g2 : mAsgL 14 (mCallBL 1 MU (mCons (mVarB 13) mNil)) [some (.sh L), x1, x2, x3, x4, x5, x6, x7, x8, x9, x10, x11, x12, some (.sh (.int n)), x14]
      = .nx [some (.sh L), x1, x2, x3, x4, x5, x6, x7, x8, x9, x10, x11, x12, some (.sh (.int n)), some (.ow (R.map .int))] := by
    simp [h1, lst_1, ok_1 fl]
  have g3 : mAsgL 10 (mCallBL 1 MR (mCons (mVarB 13) mNil)) [some (.sh L), x1, x2, x3, x4, x5, x6, x7, x8, x9, x10, x11, x12, some (.sh (.int n)), some (.ow (R.map .int))]
      = .nx [some (.sh L), x1, x2, x3, x4, x5, x6, x7, x8, x9, some (.ow (R.map .int)), x11, x12, some (.sh (.int n)), some (.ow (R.map .int))] := by
    simp [h2, lst_1, ok_1 fl]
  refine (seq_nx g1).trans ((seq_nx g2).trans ((seq_nx g3).trans ?_))
  simp [h3, h2, lst_1, ok_1 fl, mClr]
theorem neI {xs : List Int} : fNe (.list (xs.map .int)) (.list (xs.map .int)) = some (.bool false) := by
  have d : ∀ l : List Int, PyData.depthAll (l.map .int) ≤ 60 := fun l => by
    induction l with
    | nil => simp [PyData.depthAll]
    | cons x l ih => rw [List.map_cons, PyData.depthAll]; simp [PyData.depth]; omega
  have p : ∀ l : List Int, plainD.go (l.map .int) = true := fun l => by
    induction l with
    | nil => rfl
    | cons x l ih => rw [List.map_cons, plainD.go, ih]; rfl
  have e : ∀ l : List Int, PyData.eqvAll (l.map .int) (l.map .int) = true := fun l => by
    induction l with
    | nil => simp [PyData.eqvAll]
    | cons x l ih => rw [List.map_cons, PyData.eqvAll]; simp [PyData.eqv, ih]
  have := d xs
  unfold fNe
  rw [if_pos ⟨by simp only [PyData.depth]; omega, by simp only [plainD]; exact p xs, by simp only [plainD]; exact p xs⟩]
  simp [PyData.eqv, e]
/-- what is handed in -/
structure Handed (r : List Int) (x8 : Sl) (rk : D) : Prop where
  at_ : ∀ s : DD.S, s[8]? = some (some x8) → mVarB 8 s = some rk
  it : items rk = some (r.map .int)
  or_ : rk = .list (r.map .int) ∨ rk = .tuple (r.map .int)
theorem law_mid {L : D} {r : List Int} {a m k : Nat} {x1 x2 x4 x9 x10 x11 x12 x13 x14 : Option Sl} {x8 : Sl} {rk : D} {c : Int} (hc : m__law_cell [L, .int 3] = .rt (.int c)) (nd : r.Nodup) (hr : r.length ≤ 1000) (ha : a + m ≤ r.length) (hk : k ≤ m) (h8 : Handed r x8 rk) :
    law_11 [some (.sh L), x1, x2, some (.ow (r.map .int)), x4, some (.sh (.int a)), some (.sh (.int m)), some (.sh (.int k)), some x8, x9, x10, x11, x12, x13, x14] = .rt (.bool true) := by
  have hlen : ∀ r : List Int, (high r a m k).length ≤ 1000 := fun r => by
    unfold high
    have := List.length_filter_le (fun s => decide (((slots a m).filter fun t => decide (key r s < key r t)).length < k)) (slots a m)
    rw [slots_len] at this
    omega
  have fl := fun r => flat_I (high r a m k)
  have h1 := highest_ok (k := k) ha hr
  have h2 := steeps_ok h8.or_ nd ha hr hk
  have ndr : r.reverse.Nodup := (List.reverse_perm r).nodup_iff.mpr nd
  have h3 := highest_ok (r := r.reverse) (a := a) (n := m) (k := k) (by simpa using ha) (by simpa using hr)
  have h4 := steeps_ok (rk := .list (r.reverse.map .int)) (.inl rfl) ndr (by simpa using ha) (by simpa using hr) hk
  have h5 := numbers_ok (hlen r)
  have h6 := numbers_ok (hlen r.reverse)
  have ht := fun x1 x2 x3 x4 x5 x6 x7 x8 x9 x10 x11 x12 x13 x14 => law_tail (L := L) (x1 := x1) (x2 := x2) (x3 := x3) (x4 := x4) (x5 := x5) (x6 := x6) (x7 := x7) (x8 := x8) (x9 := x9) (x10 := x10) (x11 := x11) (x12 := x12) (x13 := x13) (x14 := x14) hc
  have nh := neI (xs := r)
  unfold law_11
  generalize law_19 = T at ht ⊢
  generalize m__law_highest = MH at h1 h3 ⊢
  generalize m_ranked_steeps = MS' at h2 h4 ⊢
  generalize m__law_is_numbers = MN at h5 h6 ⊢
  have fl1 := fl r
  have fl2 := fl r.reverse
  have hl1 := hlen r
  generalize high r a m k = A at *
  generalize high r.reverse a m k = B at *
  have g1 : mAsgL 9 (mCallBL 4 MH (mCons (mVarB 3) (mCons (mVarB 5) (mCons (mVarB 6) (mCons (mVarB 7) mNil))))) [some (.sh L), x1, x2, some (.ow (r.map .int)), x4, some (.sh (.int a)), some (.sh (.int m)), some (.sh (.int k)), some x8, x9, x10, x11, x12, x13, x14]
      = .nx [some (.sh L), x1, x2, some (.ow (r.map .int)), x4, some (.sh (.int a)), some (.sh (.int m)), some (.sh (.int k)), some x8, some (.ow (A.map .int)), x10, x11, x12, x13, x14] := by
    simp [h1, lst_1, ok_1 fl1]
  have g2 : mAsgL 10 (mCallBL 4 MS' (mCons (mVarB 8) (mCons (mVarB 5) (mCons (mVarB 6) (mCons (mVarB 7) mNil))))) [some (.sh L), x1, x2, some (.ow (r.map .int)), x4, some (.sh (.int a)), some (.sh (.int m)), some (.sh (.int k)), some x8, some (.ow (A.map .int)), x10, x11, x12, x13, x14]
      = .nx [some (.sh L), x1, x2, some (.ow (r.map .int)), x4, some (.sh (.int a)), some (.sh (.int m)), some (.sh (.int k)), some x8, some (.ow (A.map .int)), some (.ow (A.map .int)), x11, x12, x13, x14] := by
    have h8' := h8.at_ [some (.sh L), x1, x2, some (.ow (r.map .int)), x4, some (.sh (.int a)), some (.sh (.int m)), some (.sh (.int k)), some x8, some (.ow (A.map .int)), x10, x11, x12, x13, x14] rfl
    generalize mVarB 8 = v8 at h8' ⊢
    simp [h8', h2, lst_1, ok_1 fl1]
  refine (seq_nx g1).trans ((seq_nx g2).trans ?_)
  have h8' := fun x10 x11 x12 => h8.at_ [some (.sh L), x1, x2, some (.ow (r.map .int)), x4, some (.sh (.int a)), some (.sh (.int m)), some (.sh (.int k)), some x8, some (.ow (A.map .int)), x10, x11, x12, x13, x14] rfl
  have hit := h8.it
  generalize mVarB 8 = v8 at h8' ⊢
  rw [List.map_reverse] at h3 h4
  simp [h8', h5, hit, nh, lst_1, ok_1 fl1, show A.length < 100000 by omega, h4, ok_1 fl2, h3, h6, h2, ht]
theorem law_handed {L : D} {f : Nat → Int} {r : List Int} {a m k : Nat} {x2 x4 x8 x9 x10 x11 x12 x13 x14 : Option Sl} {c : Int} (hc : m__law_cell [L, .int 3] = .rt (.int c)) (nd : r.Nodup) (hr : r.length ≤ 1000) (ha : a + m ≤ r.length) (hk : k ≤ m) :
    law_9 [some (.sh L), some (.ow (dl f 2)), x2, some (.ow (r.map .int)), x4, some (.sh (.int a)), some (.sh (.int m)), some (.sh (.int k)), x8, x9, x10, x11, x12, x13, x14] = .rt (.bool true) := by
  have ht := fun x8 rk (h8 : Handed r x8 rk) => law_mid (L := L) (r := r) (a := a) (m := m) (k := k) (x1 := some (.ow (dl f 2))) (x2 := x2) (x4 := x4) (x9 := x9) (x10 := x10) (x11 := x11) (x12 := x12) (x13 := x13) (x14 := x14) (x8 := x8) (rk := rk) hc nd hr ha hk h8
  unfold law_9
  have t1 := ht (.ow (r.map .int)) (.list (r.map .int)) ⟨fun s h => by unfold mVarB; rw [h]; rfl, rfl, .inl rfl⟩
  have t2 := ht (.sh (.tuple (r.map .int))) (.tuple (r.map .int)) ⟨fun s h => by unfold mVarB; rw [h], rfl, .inr rfl⟩
  generalize law_11 = T at t1 t2 ⊢
  by_cases h1 : f 1 = 1
  · simp [atI_dl, h1, t2]
  · simp [atI_dl, h1, t1]
theorem law_slots {L : D} {f g : Nat → Int} {r : List Int} {n : Nat} {x5 x6 x7 x8 x9 x10 x11 x12 x13 x14 : Option Sl} {c : Int} (hc : m__law_cell [L, .int 3] = .rt (.int c)) (nd : r.Nodup) (hn : n ≤ 100) (hr : r.length = n)
    (g0 : 0 ≤ g 0 ∧ g 0 < max 1 (n : Int)) :
    law_4 [some (.sh L), some (.ow (dl f 2)), some (.sh (.int n)), some (.ow (r.map .int)), some (.ow (dl g 4)), x5, x6, x7, x8, x9, x10, x11, x12, x13, x14] = .rt (.bool true) := by
  obtain ⟨a, ha⟩ : ∃ a : Nat, g 0 = (a : Int) := ⟨(g 0).toNat, by omega⟩
  have han : a ≤ n := by omega
  have m0 : 0 ≤ g 1 % ((n : Int) - a + 1) ∧ g 1 % ((n : Int) - a + 1) < (n : Int) - a + 1 := ⟨Int.emod_nonneg _ (by omega), Int.emod_lt_of_pos _ (by omega)⟩
  have f1 : fMod (.int (g 1)) (.int ((n : Int) - a + 1)) = some (.int (g 1 % ((n : Int) - a + 1))) := f_mod (by omega)
  obtain ⟨m, hm⟩ : ∃ m : Nat, g 1 % ((n : Int) - a + 1) = (m : Int) := ⟨(g 1 % ((n : Int) - a + 1)).toNat, by omega⟩
  rw [hm] at f1 m0
  have k0 : 0 ≤ g 3 % ((m : Int) + 1) ∧ g 3 % ((m : Int) + 1) < (m : Int) + 1 := ⟨Int.emod_nonneg _ (by omega), Int.emod_lt_of_pos _ (by omega)⟩
  have f3 : fMod (.int (g 3)) (.int ((m : Int) + 1)) = some (.int (g 3 % ((m : Int) + 1))) := f_mod (by omega)
  obtain ⟨k, hk⟩ : ∃ k : Nat, g 3 % ((m : Int) + 1) = (k : Int) := ⟨(g 3 % ((m : Int) + 1)).toNat, by omega⟩
  rw [hk] at f3 k0
  have ht := fun (k : Nat) (hk : k ≤ m) => law_handed (L := L) (f := f) (r := r) (a := a) (m := m) (k := k) (x2 := some (.sh (.int n))) (x4 := some (.ow (dl g 4))) (x8 := x8) (x9 := x9) (x10 := x10) (x11 := x11) (x12 := x12) (x13 := x13) (x14 := x14) hc nd (by omega) (by omega) hk
  unfold law_4
  generalize law_9 = T at ht ⊢
  have t0 := ht 0 (by omega)
  have t1 := ht m (by omega)
  have t2 := ht k (by omega)
  clear ht
  by_cases h0 : g 2 = 0
  · simp [atI_dl, ha, f1, f3, h0] at t0 ⊢
    exact t0
  · by_cases h1 : g 2 = 1
    · simp [atI_dl, ha, f1, f3, h1, t1]
    · simp [atI_dl, ha, f1, f3, h0, h1, t2]
theorem law_true (ns : List Int) (hl : ns.length ≤ 63) : m_law [.list (ns.map .int)] = .rt (.bool true) := by
  obtain ⟨c0, k0⟩ := cell_ok ns 0 (by omega)
  obtain ⟨c1, k1⟩ := cell_ok ns 1 (by omega)
  obtain ⟨c2, k2⟩ := cell_ok ns 2 (by omega)
  obtain ⟨c3, k3⟩ := cell_ok ns 3 (by omega)
  obtain ⟨f, hd, hb⟩ := lst_draws (c := c0) (sizes := [17, 2]) (by simp) (by simp)
  have b0 := hb 0 _ rfl
  obtain ⟨n, hn⟩ : ∃ n : Nat, f 0 = (n : Int) := ⟨(f 0).toNat, by omega⟩
  obtain ⟨r, hr, hrl, nd⟩ := ranking_ok c1 n (by omega)
  obtain ⟨g, hw, hwb⟩ := lst_draws (c := c2) (sizes := [max 1 (n : Int), 17, 4, 17]) (by simp; omega) (by simp)
  have g0 := hwb 0 _ rfl
  have fin := law_slots (L := .list (ns.map .int)) (f := f) (g := g) (r := r) (n := n) (x5 := none) (x6 := none) (x7 := none) (x8 := none) (x9 := none) (x10 := none) (x11 := none) (x12 := none) (x13 := none) (x14 := none) k3 nd (by omega) hrl g0
  have fl := flat_I r
  show (mSeq _ (mSeq _ (mSeq _ (mSeq _ law_4)))) [some (.sh (.list (ns.map .int))), none, none, none, none, none, none, none, none, none, none, none, none, none, none] = _
  generalize law_4 = T at fin ⊢
  simp at hd hw k0 k1 k2
  have em : max 1 (n : Int) = if 1 < (n : Int) then (n : Int) else 1 := by split <;> omega
  rw [em] at hw
  generalize m__law_cell = MC at k0 k1 k2 ⊢
  generalize m__law_draws = MD at hd hw ⊢
  generalize m__law_ranking = MR at hr ⊢
  simp [k0, k1, k2, hd, hw, hr, atI_dl, hn, lst_1, ok_1 fl, fin]
end Toy

namespace Toy
open PySem L2 DD
theorem all_mk {l : PySem.W.OpenLaw} {w : World} {K : Fg} {h : Heap} {mg : Str → Option Value} {fa : Addr} {f0 f1 f2 f3 f4 f5 f6 f7 f8 cL_ranked_steeps f9 cL_ranking_by f10 f11 PL_ranked_steeps PL_ranking_by : Addr} {od0 an0 od1 an1 od2 an2 od3 an3 od4 an4 od5 an5 od6 an6 od7 an7 od8 an8 od9 an9 od10 an10 od11 an11 odq_ranked_steeps odq_ranking_by : Option Addr} {sl0 sl1 sl2 sl3 sl4 sl5 sl6 sl7 sl8 sl9 sl10 sl11 slq_ranked_steeps slq_ranking_by : Array (Option Value)} {oc0 kV0 dc0 pm0 ct0 cd0 oc1 kV1 dc1 pm1 ct1 cd1 oc2 kV2 dc2 pm2 ct2 cd2 oc3 kV3 dc3 pm3 ct3 cd3 oc4 kV4 dc4 pm4 ct4 cd4 oc5 kV5 dc5 pm5 ct5 cd5 oc6 kV6 dc6 pm6 ct6 cd6 oc7 kV7 dc7 pm7 ct7 cd7 oc8 kV8 dc8 pm8 ct8 oc9 kV9 dc9 pm9 ct9 oc10 kV10 dc10 pm10 ct10 cd10 oc11 kV11 dc11 pm11 ct11 cd11 ocq_ranked_steeps ocq_ranking_by : Value} {fvq_ranked_steeps fvq_ranking_by : Array Value} (X : K.In h) (G : h.Ns mainGlobals mg) (hfa : mg "law" = some (.ref fa))
    (a0 : PySem.W.nsIn K mainGlobals "_mirrored" = some (some (.ref f0)))
    (l0 : K.lookup f0 = some ⟨oc0, od0, .func (PySem.W.fnOf "_mirrored" "_mirrored" (defArgs s__mirrored) (defBody s__mirrored) (defScope s__mirrored) .none kV0 dc0 pm0 an0 cd0 ct0), sl0⟩)
    (d0 : PySem.W.codeIn K cd0 "_mirrored" = true)
    (k0 : PySem.W.keepIn K (.ref f0) = true)
    (a1 : PySem.W.nsIn K mainGlobals "_law_cell" = some (some (.ref f1)))
    (l1 : K.lookup f1 = some ⟨oc1, od1, .func (PySem.W.fnOf "_law_cell" "_law_cell" (defArgs s__law_cell) (defBody s__law_cell) (defScope s__law_cell) .none kV1 dc1 pm1 an1 cd1 ct1), sl1⟩)
    (d1 : PySem.W.codeIn K cd1 "_law_cell" = true)
    (k1 : PySem.W.keepIn K (.ref f1) = true)
    (a2 : PySem.W.nsIn K mainGlobals "_law_draws" = some (some (.ref f2)))
    (l2 : K.lookup f2 = some ⟨oc2, od2, .func (PySem.W.fnOf "_law_draws" "_law_draws" (defArgs s__law_draws) (defBody s__law_draws) (defScope s__law_draws) .none kV2 dc2 pm2 an2 cd2 ct2), sl2⟩)
    (d2 : PySem.W.codeIn K cd2 "_law_draws" = true)
    (k2 : PySem.W.keepIn K (.ref f2) = true)
    (a3 : PySem.W.nsIn K mainGlobals "_law_is_integer" = some (some (.ref f3)))
    (l3 : K.lookup f3 = some ⟨oc3, od3, .func (PySem.W.fnOf "_law_is_integer" "_law_is_integer" (defArgs s__law_is_integer) (defBody s__law_is_integer) (defScope s__law_is_integer) .none kV3 dc3 pm3 an3 cd3 ct3), sl3⟩)
    (d3 : PySem.W.codeIn K cd3 "_law_is_integer" = true)
    (k3 : PySem.W.keepIn K (.ref f3) = true)
    (a4 : PySem.W.nsIn K mainGlobals "_law_highest" = some (some (.ref f4)))
    (l4 : K.lookup f4 = some ⟨oc4, od4, .func (PySem.W.fnOf "_law_highest" "_law_highest" (defArgs s__law_highest) (defBody s__law_highest) (defScope s__law_highest) .none kV4 dc4 pm4 an4 cd4 ct4), sl4⟩)
    (d4 : PySem.W.codeIn K cd4 "_law_highest" = true)
    (k4 : PySem.W.keepIn K (.ref f4) = true)
    (a5 : PySem.W.nsIn K mainGlobals "_law_ruler" = some (some (.ref f5)))
    (l5 : K.lookup f5 = some ⟨oc5, od5, .func (PySem.W.fnOf "_law_ruler" "_law_ruler" (defArgs s__law_ruler) (defBody s__law_ruler) (defScope s__law_ruler) .none kV5 dc5 pm5 an5 cd5 ct5), sl5⟩)
    (d5 : PySem.W.codeIn K cd5 "_law_ruler" = true)
    (k5 : PySem.W.keepIn K (.ref f5) = true)
    (a6 : PySem.W.nsIn K mainGlobals "_law_ranking" = some (some (.ref f6)))
    (l6 : K.lookup f6 = some ⟨oc6, od6, .func (PySem.W.fnOf "_law_ranking" "_law_ranking" (defArgs s__law_ranking) (defBody s__law_ranking) (defScope s__law_ranking) .none kV6 dc6 pm6 an6 cd6 ct6), sl6⟩)
    (d6 : PySem.W.codeIn K cd6 "_law_ranking" = true)
    (k6 : PySem.W.keepIn K (.ref f6) = true)
    (a7 : PySem.W.nsIn K mainGlobals "_law_is_numbers" = some (some (.ref f7)))
    (l7 : K.lookup f7 = some ⟨oc7, od7, .func (PySem.W.fnOf "_law_is_numbers" "_law_is_numbers" (defArgs s__law_is_numbers) (defBody s__law_is_numbers) (defScope s__law_is_numbers) .none kV7 dc7 pm7 an7 cd7 ct7), sl7⟩)
    (d7 : PySem.W.codeIn K cd7 "_law_is_numbers" = true)
    (k7 : PySem.W.keepIn K (.ref f7) = true)
    (a8 : PySem.W.nsIn K mainGlobals "ranked_steeps" = some (some (.ref f8)))
    (l8 : K.lookup f8 = some ⟨oc8, od8, .func (PySem.W.fnOf "ranked_steeps" "ranked_steeps" (defArgs s_ranked_steeps) (defBody s_ranked_steeps) (defScope s_ranked_steeps) .none kV8 dc8 pm8 an8 (.ref cL_ranked_steeps) ct8), sl8⟩)
    (d8 : PySem.W.codeIn K (.ref cL_ranked_steeps) "ranked_steeps" = true)
    (k8 : PySem.W.keepIn K (.ref f8) = true)
    (a9 : PySem.W.nsIn K mainGlobals "ranking_by" = some (some (.ref f9)))
    (l9 : K.lookup f9 = some ⟨oc9, od9, .func (PySem.W.fnOf "ranking_by" "ranking_by" (defArgs s_ranking_by) (defBody s_ranking_by) (defScope s_ranking_by) .none kV9 dc9 pm9 an9 (.ref cL_ranking_by) ct9), sl9⟩)
    (d9 : PySem.W.codeIn K (.ref cL_ranking_by) "ranking_by" = true)
    (k9 : PySem.W.keepIn K (.ref f9) = true)
    (a10 : PySem.W.nsIn K mainGlobals "ruler_ranking" = some (some (.ref f10)))
    (l10 : K.lookup f10 = some ⟨oc10, od10, .func (PySem.W.fnOf "ruler_ranking" "ruler_ranking" (defArgs s_ruler_ranking) (defBody s_ruler_ranking) (defScope s_ruler_ranking) .none kV10 dc10 pm10 an10 cd10 ct10), sl10⟩)
    (d10 : PySem.W.codeIn K cd10 "ruler_ranking" = true)
    (k10 : PySem.W.keepIn K (.ref f10) = true)
    (a11 : PySem.W.nsIn K mainGlobals "law" = some (some (.ref f11)))
    (l11 : K.lookup f11 = some ⟨oc11, od11, .func (PySem.W.fnOf "law" "law" (defArgs s_law) (defBody s_law) (defScope s_law) .none kV11 dc11 pm11 an11 cd11 ct11), sl11⟩)
    (d11 : PySem.W.codeIn K cd11 "law" = true)
    (k11 : PySem.W.keepIn K (.ref f11) = true)
    (z0 : PySem.W.nsIn K mainGlobals "bool" = some none)
    (z1 : PySem.W.nsIn K mainGlobals "enumerate" = some none)
    (z2 : PySem.W.nsIn K mainGlobals "int" = some none)
    (z3 : PySem.W.nsIn K mainGlobals "isinstance" = some none)
    (z4 : PySem.W.nsIn K mainGlobals "len" = some none)
    (z5 : PySem.W.nsIn K mainGlobals "list" = some none)
    (z6 : PySem.W.nsIn K mainGlobals "max" = some none)
    (z7 : PySem.W.nsIn K mainGlobals "range" = some none)
    (z8 : PySem.W.nsIn K mainGlobals "s" = some none)
    (z9 : PySem.W.nsIn K mainGlobals "sorted" = some none)
    (z10 : PySem.W.nsIn K mainGlobals "tuple" = some none)
    (lq_ranked_steeps : K.lookup cL_ranked_steeps = some ⟨ocq_ranked_steeps, odq_ranked_steeps, .fields fvq_ranked_steeps, slq_ranked_steeps⟩)
    (lP_ranked_steeps : fvq_ranked_steeps[11]? = some (.ref PL_ranked_steeps))
    (hd_ranked_steeps : PySem.W.codeHdIn K cL_ranked_steeps PL_ranked_steeps = true)
    (nT_ranked_steeps : K.lookup PL_ranked_steeps = none)
    (hT_ranked_steeps : h.get? PL_ranked_steeps = some { cls := .none, data := .fields #[] })
    (lq_ranking_by : K.lookup cL_ranking_by = some ⟨ocq_ranking_by, odq_ranking_by, .fields fvq_ranking_by, slq_ranking_by⟩)
    (lP_ranking_by : fvq_ranking_by[11]? = some (.ref PL_ranking_by))
    (hd_ranking_by : PySem.W.codeHdIn K cL_ranking_by PL_ranking_by = true)
    (nT_ranking_by : K.lookup PL_ranking_by = none)
    (hT_ranking_by : h.get? PL_ranking_by = some { cls := .none, data := .fields #[] })
    (ne_ranked_steeps_ranking_by : PL_ranked_steeps ≠ PL_ranking_by)
    (ne_ranking_by_ranked_steeps : PL_ranking_by ≠ PL_ranked_steeps)
    : LamX.LawAtS l w K CX0 7 63 "_law_script" mg fa h := by
  letI tb : LTb := ⟨[(PL_ranked_steeps, ((PyProof.Rows.envOfC "ranked_steeps" (defScope s_ranked_steeps) 0 0 .none).qual ++ ("<lambda>" : Str))), (PL_ranking_by, ((PyProof.Rows.envOfC "ranking_by" (defScope s_ranking_by) 0 0 .none).qual ++ ("<lambda>" : Str)))], [], []⟩
  have e := hfa.symm.trans (PySem.W.mg_of X G a11)
  cases e
  have T : Top mg := ⟨PySem.W.mg_none_of X G z0, PySem.W.mg_none_of X G z1, PySem.W.mg_none_of X G z2, PySem.W.mg_none_of X G z3, PySem.W.mg_none_of X G z4, PySem.W.mg_none_of X G z5, PySem.W.mg_none_of X G z6, PySem.W.mg_none_of X G z7, PySem.W.mg_none_of X G z8, PySem.W.mg_none_of X G z9, PySem.W.mg_none_of X G z10⟩
  refine ⟨PySem.W.fnOf "law" "law" (defArgs s_law) (defBody s_law) (defScope s_law) .none kV11 dc11 pm11 an11 cd11 ct11, [(cL_ranked_steeps, PL_ranked_steeps), (cL_ranking_by, PL_ranking_by)], spLT K 63 [PL_ranked_steeps, PL_ranking_by], (List.forall_mem_cons.mpr ⟨hT_ranked_steeps, (List.forall_mem_cons.mpr ⟨hT_ranking_by, (fun _ z => by cases z)⟩)⟩), (List.forall_mem_cons.mpr ⟨nT_ranked_steeps, (List.forall_mem_cons.mpr ⟨nT_ranking_by, (fun _ z => by cases z)⟩)⟩), (List.forall_mem_cons.mpr ⟨PySem.W.codeHd_of_K X hd_ranked_steeps, (List.forall_mem_cons.mpr ⟨PySem.W.codeHd_of_K X hd_ranking_by, (fun _ z => by cases z)⟩)⟩), fun s v => .of_eq rfl, fun H a ns hl _ hH hS => ⟨a, ns, rfl, hl, hS, (List.forall_mem_cons.mpr ⟨hH (cL_ranked_steeps, PL_ranked_steeps) (by simp), (List.forall_mem_cons.mpr ⟨hH (cL_ranking_by, PL_ranking_by) (by simp), (fun _ z => by cases z)⟩)⟩), fun _ => rfl⟩, fun base _ _ hTB => ?_⟩
  have TB_ranked_steeps : LamX.TabB base mg cL_ranked_steeps PL_ranked_steeps := hTB (cL_ranked_steeps, PL_ranked_steeps) (by simp)
  have t0_ranked_steeps : (PL_ranked_steeps, ((PyProof.Rows.envOfC "ranked_steeps" (defScope s_ranked_steeps) 0 0 .none).qual ++ ("<lambda>" : Str))) ∈ LTb.T := (by simp : (PL_ranked_steeps, ((PyProof.Rows.envOfC "ranked_steeps" (defScope s_ranked_steeps) 0 0 .none).qual ++ ("<lambda>" : Str))) ∈ ([(PL_ranked_steeps, ((PyProof.Rows.envOfC "ranked_steeps" (defScope s_ranked_steeps) 0 0 .none).qual ++ ("<lambda>" : Str))), (PL_ranking_by, ((PyProof.Rows.envOfC "ranking_by" (defScope s_ranking_by) 0 0 .none).qual ++ ("<lambda>" : Str)))] : List (Addr × Str)))
  have t1_ranked_steeps : ∀ p ∈ LTb.T, p.1 = PL_ranked_steeps → p.2 = ((PyProof.Rows.envOfC "ranked_steeps" (defScope s_ranked_steeps) 0 0 .none).qual ++ ("<lambda>" : Str)) := (show ∀ p ∈ ([(PL_ranked_steeps, ((PyProof.Rows.envOfC "ranked_steeps" (defScope s_ranked_steeps) 0 0 .none).qual ++ ("<lambda>" : Str))), (PL_ranking_by, ((PyProof.Rows.envOfC "ranking_by" (defScope s_ranking_by) 0 0 .none).qual ++ ("<lambda>" : Str)))] : List (Addr × Str)), p.1 = PL_ranked_steeps → p.2 = ((PyProof.Rows.envOfC "ranked_steeps" (defScope s_ranked_steeps) 0 0 .none).qual ++ ("<lambda>" : Str)) from (List.forall_mem_cons.mpr ⟨fun _ => rfl, (List.forall_mem_cons.mpr ⟨fun z => (ne_ranking_by_ranked_steeps z).elim, (fun _ z => by cases z)⟩)⟩))
  have hL_ranked_steeps : (PySem.W.fnOf "ranked_steeps" "ranked_steeps" (defArgs s_ranked_steeps) (defBody s_ranked_steeps) (defScope s_ranked_steeps) .none kV8 dc8 pm8 an8 (.ref cL_ranked_steeps) ct8).code = .ref cL_ranked_steeps := rfl
  have TB_ranking_by : LamX.TabB base mg cL_ranking_by PL_ranking_by := hTB (cL_ranking_by, PL_ranking_by) (by simp)
  have t0_ranking_by : (PL_ranking_by, ((PyProof.Rows.envOfC "ranking_by" (defScope s_ranking_by) 0 0 .none).qual ++ ("<lambda>" : Str))) ∈ LTb.T := (by simp : (PL_ranking_by, ((PyProof.Rows.envOfC "ranking_by" (defScope s_ranking_by) 0 0 .none).qual ++ ("<lambda>" : Str))) ∈ ([(PL_ranked_steeps, ((PyProof.Rows.envOfC "ranked_steeps" (defScope s_ranked_steeps) 0 0 .none).qual ++ ("<lambda>" : Str))), (PL_ranking_by, ((PyProof.Rows.envOfC "ranking_by" (defScope s_ranking_by) 0 0 .none).qual ++ ("<lambda>" : Str)))] : List (Addr × Str)))
  have t1_ranking_by : ∀ p ∈ LTb.T, p.1 = PL_ranking_by → p.2 = ((PyProof.Rows.envOfC "ranking_by" (defScope s_ranking_by) 0 0 .none).qual ++ ("<lambda>" : Str)) := (show ∀ p ∈ ([(PL_ranked_steeps, ((PyProof.Rows.envOfC "ranked_steeps" (defScope s_ranked_steeps) 0 0 .none).qual ++ ("<lambda>" : Str))), (PL_ranking_by, ((PyProof.Rows.envOfC "ranking_by" (defScope s_ranking_by) 0 0 .none).qual ++ ("<lambda>" : Str)))] : List (Addr × Str)), p.1 = PL_ranking_by → p.2 = ((PyProof.Rows.envOfC "ranking_by" (defScope s_ranking_by) 0 0 .none).qual ++ ("<lambda>" : Str)) from (List.forall_mem_cons.mpr ⟨fun z => (ne_ranked_steeps_ranking_by z).elim, (List.forall_mem_cons.mpr ⟨fun _ => rfl, (fun _ z => by cases z)⟩)⟩))
  have hL_ranking_by : (PySem.W.fnOf "ranking_by" "ranking_by" (defArgs s_ranking_by) (defBody s_ranking_by) (defScope s_ranking_by) .none kV9 dc9 pm9 an9 (.ref cL_ranking_by) ct9).code = .ref cL_ranking_by := rfl
  have F0 := fun_mk (st := s__mirrored) l0 d0 k0
  have c__mirrored : Cal l.prog w K mg base CX0 C0 1 "_mirrored" 2 m__mirrored := cal_of (ok__mirrored F0 T ) (PySem.W.mg_of X G a0) F0.kp (F0.binds (ps := ["number", "digits"]) fun _ _ _ _ _ _ us hl => match us, hl with | [_, _], _ => rfl)
  have F1 := fun_mk (st := s__law_cell) l1 d1 k1
  have c__law_cell : Cal l.prog w K mg base CX0 C0 1 "_law_cell" 2 m__law_cell := cal_of (ok__law_cell F1 T ) (PySem.W.mg_of X G a1) F1.kp (F1.binds (ps := ["_law_script", "_law_k"]) fun _ _ _ _ _ _ us hl => match us, hl with | [_, _], _ => rfl)
  have F2 := fun_mk (st := s__law_draws) l2 d2 k2
  have c__law_draws : Cal l.prog w K mg base CX0 C0 1 "_law_draws" 2 m__law_draws := cal_of (ok__law_draws F2 T ) (PySem.W.mg_of X G a2) F2.kp (F2.binds (ps := ["_law_cell_here", "_law_sizes"]) fun _ _ _ _ _ _ us hl => match us, hl with | [_, _], _ => rfl)
  have F3 := fun_mk (st := s__law_is_integer) l3 d3 k3
  have c__law_is_integer : Cal l.prog w K mg base CX0 C0 1 "_law_is_integer" 1 m__law_is_integer := cal_of (ok__law_is_integer F3 T ) (PySem.W.mg_of X G a3) F3.kp (F3.binds (ps := ["_law_told"]) fun _ _ _ _ _ _ us hl => match us, hl with | [_], _ => rfl)
  have F4 := fun_mk (st := s__law_highest) l4 d4 k4
  have c__law_highest : Cal l.prog w K mg base CX0 C0 1 "_law_highest" 4 m__law_highest := cal_of (ok__law_highest F4 T ) (PySem.W.mg_of X G a4) F4.kp (F4.binds (ps := ["_law_ranking_here", "_law_slot", "_law_steps", "_law_steep"]) fun _ _ _ _ _ _ us hl => match us, hl with | [_, _, _, _], _ => rfl)
  have F5 := fun_mk (st := s__law_ruler) l5 d5 k5
  have c__law_ruler : Cal l.prog w K mg base CX0 C0 1 "_law_ruler" 1 m__law_ruler := cal_of (ok__law_ruler F5 T ) (PySem.W.mg_of X G a5) F5.kp (F5.binds (ps := ["_law_size"]) fun _ _ _ _ _ _ us hl => match us, hl with | [_], _ => rfl)
  have F6 := fun_mk (st := s__law_ranking) l6 d6 k6
  have c__law_ranking : Cal l.prog w K mg base CX0 C0 2 "_law_ranking" 2 m__law_ranking := cal_of (ok__law_ranking F6 T c__law_draws) (PySem.W.mg_of X G a6) F6.kp (F6.binds (ps := ["_law_cell_here", "_law_size"]) fun _ _ _ _ _ _ us hl => match us, hl with | [_, _], _ => rfl)
  have F7 := fun_mk (st := s__law_is_numbers) l7 d7 k7
  have c__law_is_numbers : Cal l.prog w K mg base CX0 C0 2 "_law_is_numbers" 2 m__law_is_numbers := cal_of (ok__law_is_numbers F7 T c__law_is_integer) (PySem.W.mg_of X G a7) F7.kp (F7.binds (ps := ["_law_told", "_law_wanted"]) fun _ _ _ _ _ _ us hl => match us, hl with | [_, _], _ => rfl)
  have F8 := fun_mk (st := s_ranked_steeps) l8 d8 k8
  have c_ranked_steeps : Cal l.prog w K mg base CX0 C0 5 "ranked_steeps" 4 m_ranked_steeps := cal_of (ok_ranked_steeps F8 T TB_ranked_steeps hL_ranked_steeps t0_ranked_steeps t1_ranked_steeps) (PySem.W.mg_of X G a8) F8.kp (F8.binds (ps := ["ranking", "slot", "steps", "steep"]) fun _ _ _ _ _ _ us hl => match us, hl with | [_, _, _, _], _ => rfl)
  have F9 := fun_mk (st := s_ranking_by) l9 d9 k9
  have c_ranking_by : Cal l.prog w K mg base CX0 C0 5 "ranking_by" 1 m_ranking_by := cal_of (ok_ranking_by F9 T TB_ranking_by hL_ranking_by t0_ranking_by t1_ranking_by) (PySem.W.mg_of X G a9) F9.kp (F9.binds (ps := ["keys"]) fun _ _ _ _ _ _ us hl => match us, hl with | [_], _ => rfl)
  have F10 := fun_mk (st := s_ruler_ranking) l10 d10 k10
  have c_ruler_ranking : Cal l.prog w K mg base CX0 C0 6 "ruler_ranking" 1 m_ruler_ranking := cal_of (ok_ruler_ranking F10 T c_ranking_by c__mirrored) (PySem.W.mg_of X G a10) F10.kp (F10.binds (ps := ["size"]) fun _ _ _ _ _ _ us hl => match us, hl with | [_], _ => rfl)
  have F11 := fun_mk (st := s_law) l11 d11 k11
  exact FnOk.imp (ok_law F11 T c_ranked_steeps c_ruler_ranking c__law_cell c__law_draws c__law_ranking c__law_is_numbers c__law_highest c__law_ruler) (law_spLT (Ps := [PL_ranked_steeps, PL_ranking_by]) (show ∀ p ∈ ([(PL_ranked_steeps, ((PyProof.Rows.envOfC "ranked_steeps" (defScope s_ranked_steeps) 0 0 .none).qual ++ ("<lambda>" : Str))), (PL_ranking_by, ((PyProof.Rows.envOfC "ranking_by" (defScope s_ranking_by) 0 0 .none).qual ++ ("<lambda>" : Str)))] : List (Addr × Str)), p.1 ∈ [PL_ranked_steeps, PL_ranking_by] by simp) rfl fun ns hl => law_true ns hl)

end Toy
open PySem PySem.W PyProof.Rows
set_option maxRecDepth 100000 in
set_option maxHeartbeats 0 in
theorem PySem.Challenge.cw_cornerplane_k16_steep_slots_and_ruler_holds : PySem.Challenge.rw_cornerplane_k16_steep_slots_and_ruler.Holds := by
  w_on; o_law; k_head; (case hw => w_witness2)
  k_fill
  refine LamX.walk_ofTs (l := PySem.Challenge.rw_cornerplane_k16_steep_slots_and_ruler) (n := 63) (k := 7) (x := "_law_script") (CX := fun _ => L2.CX0) rfl (by decide) rfl ⟨rfl, by decide, by decide⟩ (fun w h Y => PySem.W.km_in_of Y) ?F (fun _ _ _ _ _ h => h)
  case F =>
    intro w mg fa h Y KX G hmg
    refine' Toy.all_mk KX G hmg ?a0 ?l0 ?d0 ?k0 ?a1 ?l1 ?d1 ?k1 ?a2 ?l2 ?d2 ?k2 ?a3 ?l3 ?d3 ?k3 ?a4 ?l4 ?d4 ?k4 ?a5 ?l5 ?d5 ?k5 ?a6 ?l6 ?d6 ?k6 ?a7 ?l7 ?d7 ?k7 ?a8 ?l8 ?d8 ?k8 ?a9 ?l9 ?d9 ?k9 ?a10 ?l10 ?d10 ?k10 ?a11 ?l11 ?d11 ?k11 ?z0 ?z1 ?z2 ?z3 ?z4 ?z5 ?z6 ?z7 ?z8 ?z9 ?z10 ?lq_ranked_steeps ?lP_ranked_steeps ?hd_ranked_steeps ?nT_ranked_steeps ?hT_ranked_steeps ?lq_ranking_by ?lP_ranking_by ?hd_ranking_by ?nT_ranking_by ?hT_ranking_by ?ne_ranked_steeps_ranking_by ?ne_ranking_by_ranked_steeps
    (case a0 => k_is)
    (case l0 => k_is)
    (case d0 => k_is)
    (case k0 => k_is)
    (case a1 => k_is)
    (case l1 => k_is)
    (case d1 => k_is)
    (case k1 => k_is)
    (case a2 => k_is)
    (case l2 => k_is)
    (case d2 => k_is)
    (case k2 => k_is)
    (case a3 => k_is)
    (case l3 => k_is)
    (case d3 => k_is)
    (case k3 => k_is)
    (case a4 => k_is)
    (case l4 => k_is)
    (case d4 => k_is)
    (case k4 => k_is)
    (case a5 => k_is)
    (case l5 => k_is)
    (case d5 => k_is)
    (case k5 => k_is)
    (case a6 => k_is)
    (case l6 => k_is)
    (case d6 => k_is)
    (case k6 => k_is)
    (case a7 => k_is)
    (case l7 => k_is)
    (case d7 => k_is)
    (case k7 => k_is)
    (case a8 => k_is)
    (case l8 => k_is)
    (case d8 => k_is)
    (case k8 => k_is)
    (case a9 => k_is)
    (case l9 => k_is)
    (case d9 => k_is)
    (case k9 => k_is)
    (case a10 => k_is)
    (case l10 => k_is)
    (case d10 => k_is)
    (case k10 => k_is)
    (case a11 => k_is)
    (case l11 => k_is)
    (case d11 => k_is)
    (case k11 => k_is)
    (case z0 => k_is)
    (case z1 => k_is)
    (case z2 => k_is)
    (case z3 => k_is)
    (case z4 => k_is)
    (case z5 => k_is)
    (case z6 => k_is)
    (case z7 => k_is)
    (case z8 => k_is)
    (case z9 => k_is)
    (case z10 => k_is)
    (case lq_ranked_steeps => k_is)
    (case lP_ranked_steeps => rfl)
    (case hd_ranked_steeps => first | k_is | rfl | decide +kernel)
    (case nT_ranked_steeps => first | k_is | rfl | decide +kernel)
    (case hT_ranked_steeps => exact PySem.W.km_tabs_of Y _ (by decide))
    (case lq_ranking_by => k_is)
    (case lP_ranking_by => rfl)
    (case hd_ranking_by => first | k_is | rfl | decide +kernel)
    (case nT_ranking_by => first | k_is | rfl | decide +kernel)
    (case hT_ranking_by => exact PySem.W.km_tabs_of Y _ (by decide))
    (case ne_ranked_steeps_ranking_by => decide)
    (case ne_ranking_by_ranked_steeps => decide)
