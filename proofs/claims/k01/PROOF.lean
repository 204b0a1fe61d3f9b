import PyProof.Rows.All
import Wide.All
import OpenK.AllK
import Wide.FinOn
import HandS.Base
import HandS.Call
import HandS.TupSets
import HandS.List
import HandS.Comp
import HandS.Style
import HandS.TupAny
import HandS.Text
import HandS.Words
import HandS.WordsList
import HandS.IsInst
import HandS.Iter
import HandS.Zip
import HandS.NoneIn
import HandS.Strs
import KE.SortData
import HandS.Ends
import HandS.Exc
import HandS.Nested
import HandS.ExcInit
import KE.KExcSuper
import HandS.ExcField
import HandS.ExcCtx
import HandS.HotCalls
import HandS.ExcInitHot
import HandS.FStr
import HandS.FStrTup
import HandS.CallSlots
import KE.KExcIs
import HandS.Dict
import HandS.ExcIs
import KE.GoesEnum
import PySem.Challenge.RW_cornerplane_k01_normal_path_or_first_fau
set_option Elab.async false
set_option linter.all false
set_option maxRecDepth 100000
set_option maxHeartbeats 4000000
/-! # Sets of tuples of whole numbers: made of a tuple, asked with in -/
namespace DD
open PySem PySem.Spec PyProof.Rows L2
/-- where a search for the hash h stands behind c steps -/
abbrev pst (t : SetTable) (h : Int) (c : Nat) : SetTable.Probe := nth t.mask (runAt t.mask (SetTable.bits h % (t.mask + 1)) (SetTable.bits h)) c
theorem pst_add {t : SetTable} {h : Int} {c q : Nat} : nth t.mask (pst t h c) q = pst t h (c + q) := (nth_add t.mask c _ q).symm
theorem nth_dm {m : Nat} : ∀ (n : Nat) (p : SetTable.Probe), p.dummy = none → (nth m p n).dummy = none
  | 0, _, e => e
  | n + 1, p, e => nth_dm n _ (by unfold adv; split <;> exact e)
/-- a set of tuples as a search needs it -/
structure SetQ (P : Program) (w : World) (h : Heap) (a : Addr) (L : List (Addr × List Int)) (es : Array (Int × Value)) (ep : Nat) (t : SetTable) : Prop where
  ob : ∃ o, h.get? a = some o ∧ o.ExactSet ∧ o.data = .set es ep t
  rows : es.toList = rowsOf P w L
  tab : TabOk t (L.map fun p => thash P w p.2)
  room : L.length * 5 < t.mask * 3
  tup : ∀ p ∈ L, IsT P w h p.2 p.1
theorem SetQ.size {P : Program} {w : World} {h : Heap} {a : Addr} {L : List (Addr × List Int)} {es : Array (Int × Value)} {ep : Nat} {t : SetTable} (R : SetQ P w h a L es ep t) : es.size = L.length := by
  have e := congrArg List.length R.rows
  simpa [rowsOf] using e
theorem SetQ.fits {P : Program} {w : World} {h : Heap} {a : Addr} {L : List (Addr × List Int)} {es : Array (Int × Value)} {ep : Nat} {t : SetTable} (R : SetQ P w h a L es ep t) : t.fits es.size = true := by
  have e1 := R.tab.sz
  have e2 := R.size
  have e3 := R.room
  rw [List.length_map] at e1
  unfold SetTable.fits SetTable.fill
  rw [R.tab.dm]
  simp
  omega
theorem SetQ.entry {P : Program} {w : World} {h : Heap} {a : Addr} {L : List (Addr × List Int)} {es : Array (Int × Value)} {ep : Nat} {t : SetTable} (R : SetQ P w h a L es ep t) {i : Nat} {p : Addr × List Int} (hp : L[i]? = some p) : es[i]? = some (thash P w p.2, Value.ref p.1) := by
  rw [← Array.getElem?_toList, R.rows]; unfold rowsOf; rw [List.getElem?_map, hp]; rfl
theorem SetQ.gw {P : Program} {w : World} {h : Heap} {a : Addr} {L : List (Addr × List Int)} {es : Array (Int × Value)} {ep : Nat} {t : SetTable} (R : SetQ P w h a L es ep t) : ¬ t.gaveWay = true := by
  unfold SetTable.gaveWay; rw [mask_odd R.tab.mok]; decide
theorem hash_any (P P' : Program) (w w' : World) : thash P w = thash P' w' := rfl
section
variable {P : Program} {w : World} {A : Around} {E : Value → Shared → Prop} {s : Shared} {a : Addr} {L : List (Addr × List Int)} {es : Array (Int × Value)} {ep : Nat} {t : SetTable}
theorem row_hash (R : SetQ P w s.heap a L es ep t) {i : Nat} {p : Addr × List Int} (h : L[i]? = some p) : (es[i]?.map (·.1)).getD 0 = thash P w p.2 := by rw [R.entry h]; rfl
theorem row_live (R : SetQ P w s.heap a L es ep t) {i j : Nat} (h : t.place.toList[i]? = some j) : ∃ p, L[i]? = some p ∧ p ∈ L := by
  have e1 := (List.getElem?_eq_some_iff.mp h).1
  have e2 := R.tab.sz
  rw [List.length_map, ← Array.length_toList] at e2
  exact ⟨L[i]'(by omega), List.getElem?_eq_getElem _, List.getElem_mem _⟩
/-- the search that does not add -/
theorem seek (R : SetQ P w s.heap a L es ep t) {x : Addr} {k : List Int} (hx : IsT P w s.heap k x) (hu : A.units < cLine) {K : Nat} (b1 : K < 10 * SetTable.turns t.mask) (b2 : way t.mask (thash P w k) K ∉ t.place.toList)
    (b3 : ∀ c, c < K → way t.mask (thash P w k) c ∈ t.place.toList) {Q : SetFound → Shared → Prop} (yes : k ∈ L.map (·.2) → ∀ i, Q (.there (some i)) s) (no : k ∉ L.map (·.2) → ∀ j, Q (.free j false) s) (n : Nat) :
    ∀ (c : Nat) (st : Option SetTable.Probe), st.getD (t.probeStart (thash P w k)) = pst t (thash P w k) c → c ≤ K → K - c < n →
      (∀ (i : Nat) p, L[i]? = some p → p.2 = k → ∃ d, c ≤ d ∧ d < K ∧ t.place.toList[i]? = some (way t.mask (thash P w k) d)) → wpAny (model P w) A (setSearchFrom a (.ref x) (thash P w k) false n st) Q E s := by
  induction n with
  | zero => intro c st _ _ z; omega
  | succ n ih =>
    intro c st est cK fuel ahead
    obtain ⟨ob, gob, exo, dob⟩ := R.ob
    rw [setSearchFrom_succ]
    apply wpAny_bind; apply wpAny_setState_of gob dob R.fits
    dsimp only
    apply wp_if_neg R.gw
    have at_q : ∀ q, (nth t.mask (pst t (thash P w k) c) q).j = way t.mask (thash P w k) (c + q) := fun q => congrArg (·.j) pst_add
    have walk := go_spec t R.tab.ris R.tab.dm (fun i => (es[i]?.map (·.1)).getD 0) (thash P w k) (10 * SetTable.turns t.mask) (K - c) _ (nth_dm c _ rfl) (Nat.lt_of_le_of_lt (Nat.sub_le K c) b1)
      (fun q hq => by rw [at_q]; exact b3 _ (by omega)) (by rw [at_q, Nat.add_sub_cancel' cK]; exact b2)
    have pass : ∀ (i : Nat) (p : Addr × List Int), L[i]? = some p → p.2 = k → ∀ q, (∀ q' i' : Nat, q' < q → t.place.toList[i']? = some (nth t.mask (pst t (thash P w k) c) q').j → (fun i : Nat => (es[i]?.map (·.1)).getD 0) i' ≠ thash P w k) → ∃ d, c + q ≤ d ∧ d < K ∧ t.place.toList[i]? = some (way t.mask (thash P w k) d) := fun i p hp hk q none_ => by
      obtain ⟨d, d1, d2, d3⟩ := ahead i p hp hk
      refine ⟨d, Nat.le_of_not_lt fun z => ?_, d2, d3⟩
      exact none_ (d - c) i (by omega) (by rw [at_q, Nat.add_sub_cancel' d1]; exact d3) ((row_hash R hp).trans (by rw [hk]))
    rcases walk with ⟨q, i, hq, hi, -, none_, e⟩ | ⟨none_, e⟩
    · have e' : t.probe (fun i => (es[i]?.map (·.1)).getD 0) (thash P w k) (st.getD (t.probeStart (thash P w k))) = some (.candidate (way t.mask (thash P w k) (c + q)) i (pst t (thash P w k) (c + (q + 1)))) := by
        rw [est, ← at_q, ← pst_add]; exact e
      rw [e']
      dsimp only
      rw [at_q] at hi
      obtain ⟨p, hp, pL⟩ := row_live R hi
      have sl : t.slot (way t.mask (thash P w k) (c + q)) = .live i := slot_live R.tab.ris hi
      have tail : wpAny (model P w) A (searchRest a (.ref x) (thash P w k) false n es t (way t.mask (thash P w k) (c + q)) i (pst t (thash P w k) (c + (q + 1)))) Q E s := by
        unfold searchRest
        rw [R.entry hp]
        dsimp only
        apply wpAny_bind; apply wpAny_holding; apply wpAny_eqBool_tuple hu (R.tup p pL) hx
        apply wpAny_bind; apply wpAny_setState_of gob dob R.fits
        dsimp only
        apply wp_if_neg (by simp)
        rw [sameMem]
        dsimp only
        simp only [if_true, sl, R.entry hp]
        refine wpAny_bind (wpAny_isSame_ref_self (wpAny_bind (wpAny_pure ?_)))
        simp only [if_true]
        by_cases same : p.2 = k
        · apply wp_if_pos (by simp [same])
          exact wpAny_pure (yes (List.mem_map.mpr ⟨p, pL, same⟩) i)
        · apply wp_if_neg (by simp [same])
          refine ih _ _ rfl (by omega) (by omega) fun i0 p0 h0 hk0 => ?_
          obtain ⟨d, d1, d2, d3⟩ := pass i0 p0 h0 hk0 q none_
          refine ⟨d, Nat.lt_of_le_of_ne d1 fun z => ?_, d2, d3⟩
          have z' : c + q = d := z
          rw [← z'] at d3
          have s0 := slot_live R.tab.ris d3
          rw [sl] at s0
          cases s0
          rw [hp] at h0; cases h0
          exact same hk0
      by_cases hl : t.led = true
      · apply wp_if_neg (by simp [hl])
        exact tail
      · apply wp_if_pos (by simp [hl])
        refine wpAny_bind (seen_tup hx (fun y hy => ?_) (wp_if_neg (by decide) tail))
        obtain ⟨r, hr, rfl⟩ := List.mem_map.mp hy
        have hr' : r ∈ es.toList := by
          have := (show r ∈ es ∧ r.1 = thash P w k by simpa using hr).1
          simpa using this
        rw [R.rows] at hr'
        obtain ⟨p2, m2, rfl⟩ := List.mem_map.mp hr'
        exact ⟨_, _, rfl, R.tup p2 m2⟩
    · have e' : t.probe (fun i => (es[i]?.map (·.1)).getD 0) (thash P w k) (st.getD (t.probeStart (thash P w k))) = some (.empty (way t.mask (thash P w k) K) none) := by
        have z : way t.mask (thash P w k) K = (nth t.mask (pst t (thash P w k) c) (K - c)).j := by rw [at_q, Nat.add_sub_cancel' cK]
        rw [est, z]; exact e
      rw [e']
      refine wpAny_pure (no (fun hm => ?_) _)
      obtain ⟨p0, m0, k0⟩ := List.mem_map.mp hm
      obtain ⟨i0, l0, e0⟩ := List.getElem_of_mem m0
      obtain ⟨d, d1, d2, -⟩ := pass i0 p0 (by rw [List.getElem?_eq_getElem l0, e0]) k0 (K - c) none_
      omega
/-- is it one of them -/
theorem find_tup (R : SetQ P w s.heap a L es ep t) {x : Addr} {k : List Int} (hx : IsT P w s.heap k x) (hu : A.units < cLine) {Q : Option Nat → Shared → Prop} (yes : k ∈ L.map (·.2) → ∀ i, Q (some i) s) (no : k ∉ L.map (·.2) → Q none s) :
    wpAny (model P w) A (setFind a (.ref x) (thash P w k)) Q E s := by
  obtain ⟨ob, gob, exo, dob⟩ := R.ob
  have rm := R.room
  obtain ⟨K, b1, b2, b3⟩ := R.tab.first (by rw [List.length_map]; omega) (thash P w k)
  have small : K < 100000 := by
    have : 10 * SetTable.turns t.mask ≤ 1420 := by
      unfold SetTable.turns
      rcases R.tab.mok with e | e | e <;> omega
    omega
  unfold setFind
  rw [show (100000 : Nat) = 99999 + 1 from rfl, setFindIn]
  apply wpAny_bind; apply wpAny_setState_of gob dob R.fits
  dsimp only
  refine wp_if_neg (by unfold byScan Value.scannable; simp) ?_
  apply wpAny_bind
  unfold setSearch
  refine seek R hx hu b1 b2 b3 (fun m i => ?_) (fun m j => ?_) 100000 0 none rfl (Nat.zero_le K) small fun i p hp hk => ?_
  · exact wpAny_pure (yes m i)
  · exact wpAny_pure (no m)
  · have hh : (L.map fun p => thash P w p.2)[i]? = some (thash P w k) := by rw [List.getElem?_map, hp, ← hk]; rfl
    have hlen : i < t.place.toList.length := by
      have e1 := (List.getElem?_eq_some_iff.mp hp).1
      have e2 := R.tab.sz
      rw [List.length_map] at e2
      rw [Array.length_toList, e2]; exact e1
    have hj := List.getElem?_eq_getElem hlen
    obtain ⟨d, d1, d2⟩ := R.tab.before b2 hh hj
    exact ⟨d, Nat.zero_le d, d1, by rw [hj, d2]⟩

/-- a set as set() lays it -/
abbrev set0 (w : World) : Obj := { cls := .type "set", dict := none, data := .set #[] 0 (.fresh 0 0 (!w.params.followText "set-order")) }
theorem none_past {h : Heap} {b : Addr} (hb : h.objs.size ≤ b) : h.get? b = none := by
  cases q : h.get? b with
  | none => rfl
  | some o => exact absurd (Nat.lt_of_lt_of_le (Heap.lt_size q) hb) (Nat.lt_irrefl _)
/-- what set.__init__ of a tuple of tuples leaves -/
def Filled (P : Program) (w : World) (s : Shared) (ks : List (Addr × List Int)) (s2 : Shared) : Prop := ∃ h' tk L es ep t, s2 = { s with heap := h', toks := tk } ∧ SetTR P w h' s.heap.objs.size L es ep t ∧ Got ks ks.length L ∧ ∀ b o, s.heap.get? b = some o → h'.get? b = some o
theorem fill_tup {l : Addr} {xs : Array Value} {ks : List (Addr × List Int)} (hh : A.handled = none) (hl : s.heap.IsTuple l xs) (hx : xs.toList = ks.map fun p => Value.ref p.1) (hk : ∀ p ∈ ks, IsT P w s.heap p.2 p.1) (few : ks.length < 64) (hu : A.in1.units < cLine)
    (hne : l ≠ (s.heap.push (set0 w)).objs.size) : codeAny (model P w) A (.builtin "set.update.loop" ⟨[.ref s.heap.objs.size, .ref (s.heap.push (set0 w)).objs.size], []⟩)
      (wants (fun r s2 => r = .none ∧ Filled P w s ks s2) E) { s with heap := (s.heap.push (set0 w)).push { cls := .type "tuple_iterator", data := .fields #[.ref l, .int 0 0] } } := by
  have hn : xs.size = ks.length := by
    have := congrArg List.length hx
    simpa using this
  have old : l < s.heap.objs.size := by
    obtain ⟨o, e, -⟩ := hl
    exact Heap.lt_size e
  have s1 : (s.heap.push (set0 w)).objs.size = s.heap.objs.size + 1 := Heap.size_push ..
  have own : s.heap.objs.size ∉ [(s.heap.push (set0 w)).objs.size, l] := fun m => by
    rw [s1] at m
    rcases List.mem_cons.mp m with e | e
    · exact Nat.ne_of_lt (Nat.lt_succ_self _) e
    · exact Nat.ne_of_gt old (List.mem_singleton.mp e)
  have val : ∀ (i : Nat) (v : Value), xs[i]? = some v → ∃ p, ks[i]? = some p ∧ v = .ref p.1 := fun i v hv => by
    rw [← Array.getElem?_toList, hx, List.getElem?_map] at hv
    cases q : ks[i]? with
    | none => rw [q] at hv; cases hv
    | some p => rw [q] at hv; cases hv; exact ⟨p, rfl, rfl⟩
  refine set_update_tups ((Walks.tuple (A := A.in1) (by simp [hh]) _ l hne xs).toS) s.heap.objs.size own ks hn few val s.heap hk (none_past (Nat.le_refl _)) (fun b hb => none_past (by rw [List.mem_singleton.mp hb, s1]; omega)) hu (xs.size - 0) 0 _ rfl
    (Nat.zero_le _) ⟨⟨_, Heap.get?_push_size _ rfl, rfl, rfl⟩, ((hl.push _).push _)⟩ (fun b o e => Heap.get?_push_of_some _ (Heap.get?_push_of_some _ e)) ⟨[], #[], 0, _, setTR_fresh (Heap.get?_push_of_some _ (Heap.get?_push_size _ rfl)), Got.zero ks⟩ ?_
  intro s' L es ep t mv S g keep
  obtain ⟨h', gs, dr, tk, os'⟩ := s'
  have e1 : gs = s.gens := mv.gens
  have e2 : dr = s.drawn := mv.drawn
  have e3 : os' = s.os := mv.os
  subst e1 e2 e3
  exact ⟨rfl, h', tk, L, es, ep, t, rfl, S, by rw [← hn]; exact g, keep⟩

theorem init_tup {l : Addr} {xs : Array Value} {ks : List (Addr × List Int)} (hh : A.handled = none) (hl : s.heap.IsTuple l xs) (hx : xs.toList = ks.map fun p => Value.ref p.1) (hk : ∀ p ∈ ks, IsT P w s.heap p.2 p.1) (few : ks.length < 64) (hu : A.in1.in1.units < cLine) :
    codeAny (model P w) A (.call (.builtin "set.__init__") ⟨[.ref s.heap.objs.size, .ref l], []⟩) (wants (fun r s2 => r = .none ∧ Filled P w s ks s2) E) { s with heap := s.heap.push (set0 w) } := by
  obtain ⟨⟨c0, d0, da, sl⟩, ho, hc, n, hd⟩ := id hl
  simp only at hc hd
  subst hc hd
  have hne : l ≠ (s.heap.push (set0 w)).objs.size := by
    rw [show (s.heap.push (set0 w)).objs.size = s.heap.objs.size + 1 from Heap.size_push ..]
    exact Nat.ne_of_lt (Nat.lt_succ_of_lt (Heap.lt_size ho))
  have ho1 : (s.heap.push (set0 w)).get? l = some ⟨.type "tuple", d0, .seq xs n, sl⟩ := Heap.get?_push_of_some _ ho
  have i1 := F.sub_tuple_set
  have i2 := F.sub_tuple_frozenset
  have i3 : (Value.type "tuple" == Value.type "dict") = false := by decide
  have l1 : (s.heap.push (set0 w)).IsTuple l xs := hl.push _
  refine codeAny_call_builtin F.called_set.init.plain F.entry_set_init (check_set_init_1 ⟨_, Heap.get?_push_size _ rfl, rfl⟩ ?_)
  unfold Builtin.«set.__init__» noKeywords Builtin.Frozenset.updateFrom
  generalize e : pyIter = it
  wp_walk
  subst e
  apply wpAny_pyIter_tuple l1
  refine wpAny_bind (wpAny_runValue ?_)
  refine codeAny_mono (fill_tup (E := E) (by simp [hh]) hl hx hk few hu hne) fun r s2 hr => ?_
  cases r with
  | error e => exact hr
  | ok f =>
    cases f with
    | ret v =>
      obtain ⟨rfl, q⟩ := hr
      show wpAny _ _ _ _ _ _
      refine wpAny_pure ?_
      show wpAny _ _ (ret Value.none) _ _ _
      exact wpAny_pure ⟨rfl, q⟩
    | _ => exact hr.elim
theorem call_tup {l : Addr} {xs : Array Value} {ks : List (Addr × List Int)} {Q : Value → Shared → Prop} (hh : A.handled = none) (hl : s.heap.IsTuple l xs) (hx : xs.toList = ks.map fun p => Value.ref p.1) (hk : ∀ p ∈ ks, IsT P w s.heap p.2 p.1) (few : ks.length < 64)
    (hu : A.units + 4 < cLine) (fin : ∀ s2, Filled P w s ks s2 → Q (.ref s.heap.objs.size) s2) : wpAny (model P w) A (call (.type "set") [.ref l]) Q E s := by
  obtain ⟨c, tl, m1⟩ := F.called_set.mro
  have m2 := F.called_set.made
  have m3 := F.called_set.sub
  have m4 := F.called_set.notType
  have m5 := F.called_set.canCreate
  have m6 := F.typeCall_set_1 (.ref l)
  apply wpAny_call; apply codeAny_of_tree
  show wpAny _ _ (callAny (.type "set") _) _ _ _
  refine wpAny_pure ⟨Code.quiet_builtin _ (by decide +kernel), codeAny_builtin F.entry_type_call ?_⟩
  rw [Around.under_plain (weight_type_call_type "set" [.ref l] []) rfl]
  repeat (any_goals (first | assumption | wp_step))
  refine codeAny_mono (code_set_led1 (.ref l) (E := E) (Q₁ := fun v u => v = .ref s.heap.objs.size ∧ u = { s with heap := s.heap.push (set0 w) }) ⟨rfl, rfl⟩) fun r u hr => ?_
  cases r with
  | error e => exact hr
  | ok f =>
    cases f with
    | ret v =>
      obtain ⟨rfl, rfl⟩ := hr
      have g1 : (s.heap.push (set0 w)).get? s.heap.objs.size = some (set0 w) := Heap.get?_push_size _ rfl
      have g2 : Shared.TypeIs { s with heap := s.heap.push (set0 w) } (.ref s.heap.objs.size) "set" := ⟨_, g1, rfl⟩
      have g3 := F.called_set.init.lookup
      have g4 := F.called_set.init.bind (.ref s.heap.objs.size)
      repeat (any_goals (first | assumption | wp_step))
      refine codeAny_mono (init_tup (E := E) (by simp [hh]) hl hx hk few (by simp; omega)) fun r2 s2 h2 => ?_
      cases r2 with
      | error e => exact h2
      | ok f2 =>
        cases f2 with
        | ret v2 =>
          obtain ⟨rfl, q⟩ := h2
          repeat (any_goals (first | assumption | wp_step))
          exact fin _ q
        | _ => exact h2.elim
    | _ => exact hr.elim

theorem in_tup (R : SetQ P w s.heap a L es ep t) {x : Addr} {k : List Int} (hx : IsT P w s.heap k x) (hu : A.units + 4 < cLine) {Q : Value → Shared → Prop} (fin : ∀ n, Q (.bool (decide (k ∈ L.map (·.2)))) { s with toks := n }) :
    wpAny (model P w) A (compareOp .In (.ref x) (.ref a)) Q E s := by
  have ty : s.TypeIs (.ref a) "set" := by
    obtain ⟨o, e1, e2, -⟩ := R.ob
    exact ⟨o, e1, e2.1⟩
  show wpAny _ _ (do return .bool (← contains (.ref a) (.ref x))) Q E s
  apply wpAny_bind
  unfold contains
  try with_reducible apply wpAny_holding
  refine wpAny_bind (wpAny_specialOf ty F.slot_set_contains.lookup ?_)
  show wpAny _ _ (if (some (Value.builtin "set.__contains__") == some Value.none) = true then _ else _) _ E s
  rw [if_neg (by rw [beq_builtin_none]; decide)]
  refine wpAny_bind (wpAny_callSpecialUnlessNone?_slot (name := Str.ofString "__contains__") ty F.slot_set_contains (wpAny_call_entry F.slot_set_contains ty entry_set_contains ?_ (F.args_set_contains_2 _ _)))
  unfold Builtin.«frozenset.__contains__» Builtin.Frozenset.oneOther
  simp only [List.isEmpty_nil, bind_assoc]
  unfold Builtin.Frozenset.addrOf Builtin.Frozenset.withSetAsKey setContains
  apply wpAny_bind; apply wpAny_pure
  try dsimp only
  apply wpAny_bind; apply wpAny_pure
  try dsimp only
  apply wpAny_bind; apply wpAny_tryCatch
  apply wpAny_holding
  refine wpAny_bind (wpAny_pyHash_tuple (by simp; omega) hx ?_)
  have R' : SetQ P w ({ s with toks := s.toks + (k.length + 1) } : Shared).heap a L es ep t := R
  refine wpAny_bind (find_tup R' hx (by simp; omega) (fun m i => ?_) fun m => ?_)
  · refine wpAny_pure ?_
    show wpAny _ _ (ret (Value.bool true)) _ _ _
    exact wpAny_pure ⟨_, rfl, wpAny_truthy_bool (wpAny_pure (by have := fin (s.toks + (k.length + 1)); rwa [decide_eq_true m] at this))⟩
  · refine wpAny_pure ?_
    show wpAny _ _ (ret (Value.bool false)) _ _ _
    exact wpAny_pure ⟨_, rfl, wpAny_truthy_bool (wpAny_pure (by have := fin (s.toks + (k.length + 1)); rwa [decide_eq_false m] at this))⟩

end
/-- the set at a, whoever made it -/
structure SetP (h : Heap) (a : Addr) (L : List (Addr × List Int)) : Prop where
  ex : ∃ (es : Array (Int × Value)) (ep : Nat) (t : SetTable), (∃ o, h.get? a = some o ∧ o.ExactSet ∧ o.data = .set es ep t) ∧ (∀ P w, es.toList = rowsOf P w L ∧ TabOk t (L.map fun p => thash P w p.2)) ∧ L.length * 5 < t.mask * 3
def SetN (a : Addr) (L : List (Addr × List Int)) : HO := .ext fun h => SetP h a L
theorem setN_new {P : Program} {w : World} {H : Hp} {h : Heap} {a : Addr} {L : List (Addr × List Int)} (R : SetP h a L) : ObjOk P w H h a (SetN a L) := by
  have ⟨es, ep, t, ⟨o, ho, r⟩, q⟩ := R.ex
  refine ⟨R, ⟨o, ho⟩, fun h1 h2 p k => ?_⟩
  have ⟨es', ep', t', ⟨o', ho', r'⟩, q'⟩ := SetP.ex p
  exact ⟨es', ep', t', ⟨o', k o' ho', r'⟩, q'⟩
theorem setP_of {P : Program} {w : World} {h : Heap} {a : Addr} {L : List (Addr × List Int)} {es : Array (Int × Value)} {ep : Nat} {t : SetTable} (R : SetTR P w h a L es ep t) : SetP h a L :=
  ⟨es, ep, t, R.ob, fun P' w' => ⟨R.rows, R.tab⟩, R.room⟩
theorem SetP.full {P : Program} {w : World} {h : Heap} {a : Addr} {L : List (Addr × List Int)} (R : SetP h a L) (ht : ∀ p ∈ L, IsT P w h p.2 p.1) : ∃ es ep t, SetQ P w h a L es ep t := by
  obtain ⟨es, ep, t, h1, h2, h3⟩ := R.ex
  exact ⟨es, ep, t, h1, (h2 P w).1, (h2 P w).2, h3, ht⟩
section
variable {X : Cx}
/-- set(xs), xs a tuple of tuples of ints -/
def rSetTup (K : PySem.W.Frag) : List V → Hp → VK → Prop := fun xs H Q => ∃ (l : Addr) (ks : List (Addr × List Int)), xs = [V.ref l] ∧ (SqL K H l (ks.map fun p => V.ref p.1) ∨ SqT K H l (ks.map fun p => V.ref p.1)) ∧ (∀ p ∈ ks, SqT K H p.1 (p.2.map V.int)) ∧ ks.length < 64 ∧
  ∀ a L, H a = none → (∀ p ∈ L, p ∈ ks) → (∀ p ∈ ks, p.2 ∈ L.map (·.2)) → Q (.ref a) (upd H a (SetN a L))
theorem cr_setTup (hc : X.calm = true) (hu : X.A.units + 64 < cLine) : CallR X (.type "set") (rSetTup X.K) := by
  intro pins s σ H xs us Q I r h
  obtain ⟨l, ks, rfl, hl, hk, hf, q⟩ := h
  rw [Vals.ref1 r]
  have hn : H s.heap.objs.size = none := I.hok.fresh (Nat.le_refl _)
  have fin : ∀ (h' : Heap) (tk : Nat) L es ep t, SetTR X.prog X.w h' s.heap.objs.size L es ep t → Got ks ks.length L → (∀ b o, s.heap.get? b = some o → h'.get? b = some o) → ∃ v H', Inv X pins σ H' { s with heap := h', toks := tk } ∧ RelV v (.ref s.heap.objs.size) ∧ Q v H' := fun h' tk L es ep t R g k =>
    ⟨.ref _, _, I.laid (t' := tk) k (Nat.le_refl _) (setN_new (setP_of R)), rfl, q _ L hn (fun p hp => List.mem_of_mem_take (g.sub p hp)) fun p hp => g.all p (by rw [List.take_length]; exact hp)⟩
  rcases hl with hl | hl
  · obtain ⟨its, rv, pl, hz⟩ := I.list hl
    exact call_set_tups (P := X.prog) (w := X.w) ks (I.ok.hd hc) pl.isList (by simpa using refs_of_vals rv) (fun p hp => I.isT (hk p hp)) hf (by omega) fun h' tk L es ep t R g k => fin h' tk L es ep t R g k
  · obtain ⟨its, rv, pl, hz⟩ := I.tuple hl
    refine call_tup (P := X.prog) (w := X.w) (ks := ks) (I.ok.hd hc) pl (by simpa using refs_of_vals rv) (fun p hp => I.isT (hk p hp)) hf (by omega) fun s2 hs => ?_
    obtain ⟨h', tk, L, es, ep, t, rfl, R, g, k⟩ := hs
    exact fin h' tk L es ep t R g k
def rSetIn (K : PySem.W.Frag) (n : Bool) : V → V → Hp → VK → Prop := fun x y H Q => ∃ (p a : Addr) (k : List Int) (L : List (Addr × List Int)), x = .ref p ∧ y = .ref a ∧ SqT K H p (k.map V.int) ∧ H a = some (SetN a L) ∧ (∀ q ∈ L, SqT K H q.1 (q.2.map V.int)) ∧
  Q (.bl (if n then !decide (k ∈ L.map (·.2)) else decide (k ∈ L.map (·.2)))) H
theorem or_setIn (hu : X.A.units + 64 < cLine) : OpR X (compareOp .In) (rSetIn X.K false) := by
  intro pins s σ H x y v u Q I rx ry h
  obtain ⟨p, a, k, L, rfl, rfl, hp, ha, hL, q⟩ := h
  cases rx
  cases ry
  have S : SetP s.heap a L := (I.hok a _ ha).1
  obtain ⟨es, ep, t, R⟩ := S.full (P := X.prog) (w := X.w) fun r hr => I.isT (hL r hr)
  exact in_tup R (I.isT hp) (by omega) fun n => ⟨.bl _, H, I.tok n, rfl, q⟩
end
end DD

/-! # Data for what a def reckons: plain data in the place of values and heaps -/
namespace DD
open PySem L2

abbrev D := PyData
abbrev Fg := PySem.W.Frag

/-- a tuple that is known to its object (so that it has no dict of its own), or one of the written part -/
def TupX (K : Fg) (H : Hp) (a : Addr) (xs : List V) : Prop :=
  (∃ o : Obj, H a = some (.frz o (.tup xs)) ∧ o.cls = .type "tuple" ∧ o.dict = none) ∨
    ∃ (o : Obj) (its : Array Value) (n : Nat), K.lookup a = some o ∧ o.cls = .type "tuple" ∧ o.dict = none ∧ o.data = .seq its n ∧ its.size ≤ sizeLine ∧ Vals xs its.toList
theorem TupX.sqt {K : Fg} {H : Hp} {a : Addr} {xs : List V} (h : TupX K H a xs) : SqT K H a xs := by
  rcases h with ⟨o, h, _⟩ | ⟨o, its, n, h1, h2, _, h3, h4, h5⟩
  · exact .inl (.inr ⟨o, h⟩)
  · exact .inr ⟨o, its, n, h1, h2, h3, h4, h5⟩
theorem TupX.to {K : Fg} {H H' : Hp} {a : Addr} {xs : List V} (h : TupX K H a xs) (k : ∀ o u, H a = some (.frz o u) → H' a = some (.frz o u)) : TupX K H' a xs := by
  rcases h with ⟨o, h, q⟩ | h
  · exact .inl ⟨o, k o _ h, q⟩
  · exact .inr h
/-- a list that stands where B allows it, or one of the written part -/
def LX (K : Fg) (B : Addr → Prop) (H : Hp) (a : Addr) (xs : List V) : Prop := (B a ∧ Rd H a (.lst xs)) ∨
  ∃ (o : Obj) (its : Array Value) (n : Nat), K.lookup a = some o ∧ o.cls = .type "list" ∧ o.dict = none ∧ o.data = .seq its n ∧ its.size ≤ sizeLine ∧ Vals xs its.toList
theorem LX.sql {K : Fg} {B : Addr → Prop} {H : Hp} {a : Addr} {xs : List V} (h : LX K B H a xs) : SqL K H a xs := h.elim (fun q => .inl q.2) .inr
theorem LX.to {K : Fg} {B B' : Addr → Prop} {H H' : Hp} {a : Addr} {xs : List V} (h : LX K B H a xs) (k : B a → Rd H a (.lst xs) → B' a ∧ Rd H' a (.lst xs)) : LX K B' H' a xs := h.elim (fun q => .inl (k q.1 q.2)) .inr
/-! ### data at a value: B tells where lists may stand -/
mutual
inductive R (K : Fg) (B : Addr → Prop) (H : Hp) : V → D → Prop
  | non : R K B H .non .none
  | bl (b : Bool) : R K B H (.bl b) (.bool b)
  | int (i : Int) : R K B H (.int i) (.int i)
  | str {x : Str} : (PyData.str x).canLay0 = true → R K B H (.str x) (.str x)
  | lst {a : Addr} {xs : List V} {ds : List D} : LX K B H a xs → RA K B H xs ds → R K B H (.ref a) (.list ds)
  | tup {a : Addr} {xs : List V} {ds : List D} : TupX K H a xs → RA K B H xs ds → R K B H (.ref a) (.tuple ds)
inductive RA (K : Fg) (B : Addr → Prop) (H : Hp) : List V → List D → Prop
  | nil : RA K B H [] []
  | cons {v : V} {vs : List V} {d : D} {ds : List D} : R K B H v d → RA K B H vs ds → RA K B H (v :: vs) (d :: ds)
end
section
variable {K : Fg} {B B' : Addr → Prop} {H H' : Hp}
mutual
theorem R.to (hl : ∀ a xs, B a → Rd H a (.lst xs) → B' a ∧ Rd H' a (.lst xs)) (ht : ∀ a xs, TupX K H a xs → TupX K H' a xs) : ∀ (d : D) (v : V), R K B H v d → R K B' H' v d
  | .none, _, h => by cases h; exact .non
  | .bool b, _, h => by cases h; exact .bl b
  | .int i, _, h => by cases h; exact .int i
  | .str x, _, h => by cases h with | str q => exact .str q
  | .list ds, _, h => by
    cases h with
    | lst hr ha => exact .lst (hr.to (hl _ _)) (RA.to hl ht ds _ ha)
  | .tuple ds, _, h => by
    cases h with
    | tup hr ha => exact .tup (ht _ _ hr) (RA.to hl ht ds _ ha)
  | .dict _, _, h => by cases h
theorem RA.to (hl : ∀ a xs, B a → Rd H a (.lst xs) → B' a ∧ Rd H' a (.lst xs)) (ht : ∀ a xs, TupX K H a xs → TupX K H' a xs) : ∀ (ds : List D) (vs : List V), RA K B H vs ds → RA K B' H' vs ds
  | [], _, h => by cases h; exact .nil
  | d :: ds, _, h => by
    cases h with
    | cons h1 h2 => exact .cons (R.to hl ht d _ h1) (RA.to hl ht ds _ h2)
end
mutual
theorem R.dp : ∀ (d : D) (v : V), R K B H v d → Dp K H v d
  | .none, _, h => by cases h; exact .non
  | .bool b, _, h => by cases h; exact .bl b
  | .int i, _, h => by cases h; exact .int i
  | .str x, _, h => by cases h with | str q => exact .str x
  | .list ds, _, h => by
    cases h with
    | lst hr ha => exact .lst hr.sql (RA.dp ds _ ha)
  | .tuple ds, _, h => by
    cases h with
    | tup hr ha => exact .tup hr.sqt (RA.dp ds _ ha)
  | .dict _, _, h => by cases h
theorem RA.dp : ∀ (ds : List D) (vs : List V), RA K B H vs ds → DpAll K H vs ds
  | [], _, h => by cases h; exact .nil
  | d :: ds, _, h => by
    cases h with
    | cons h1 h2 => exact .cons (R.dp d _ h1) (RA.dp ds _ h2)
end
mutual
theorem R.lay : ∀ (d : D) (v : V), R K B H v d → d.canLay0 = true
  | .none, _, _ => by simp [PyData.canLay0]
  | .bool b, _, _ => by simp [PyData.canLay0]
  | .int i, _, _ => by simp [PyData.canLay0]
  | .str x, _, h => by cases h with | str q => exact q
  | .list ds, _, h => by
    cases h with
    | lst hr ha => simp only [PyData.canLay0]; exact RA.lay ds _ ha
  | .tuple ds, _, h => by
    cases h with
    | tup hr ha => simp only [PyData.canLay0]; exact RA.lay ds _ ha
  | .dict _, _, h => by cases h
theorem RA.lay : ∀ (ds : List D) (vs : List V), RA K B H vs ds → PyData.canLayAll0 ds = true
  | [], _, _ => by simp [PyData.canLayAll0]
  | d :: ds, _, h => by
    cases h with
    | cons h1 h2 => simp only [PyData.canLayAll0, R.lay d _ h1, RA.lay ds _ h2, Bool.and_self]
end
/-- no list within -/
def flatD : D → Bool
  | .none => true
  | .bool _ => true
  | .int _ => true
  | .str _ => true
  | .list _ => false
  | .dict _ => false
  | .tuple xs => go xs
where go : List D → Bool
  | [] => true
  | x :: xs => flatD x && go xs
mutual
theorem R.flat : ∀ (d : D) (v : V), flatD d = true → R K B H v d → R K B' H v d
  | .none, _, _, h => by cases h; exact .non
  | .bool b, _, _, h => by cases h; exact .bl b
  | .int i, _, _, h => by cases h; exact .int i
  | .str x, _, _, h => by cases h with | str q => exact .str q
  | .list ds, _, f, h => by simp [flatD] at f
  | .tuple ds, _, f, h => by
    cases h with
    | tup hr ha => exact .tup hr (RA.flat ds _ (by simpa only [flatD] using f) ha)
  | .dict _, _, _, h => by cases h
theorem RA.flat : ∀ (ds : List D) (vs : List V), flatD.go ds = true → RA K B H vs ds → RA K B' H vs ds
  | [], _, _, h => by cases h; exact .nil
  | d :: ds, _, f, h => by
    cases h with
    | cons h1 h2 =>
      have f' : flatD d = true ∧ flatD.go ds = true := by simpa only [flatD.go, Bool.and_eq_true] using f
      exact .cons (R.flat d _ f'.1 h1) (RA.flat ds _ f'.2 h2)
end
/-- what was tracked stands as before -/
def Ex (H H' : Hp) : Prop := ∀ a o, H a = some o → H' a = some o
theorem Ex.refl (H : Hp) : Ex H H := fun _ _ h => h
theorem Ex.trans {H H1 H2 : Hp} (a : Ex H H1) (b : Ex H1 H2) : Ex H H2 := fun x o h => b x o (a x o h)
theorem Ex.new {H : Hp} {p : Addr} {o : HO} (h : H p = none) : Ex H (upd H p o) := fun a u e => by rw [upd_ne (ne_of_none e h)]; exact e
theorem Ex.mut {H H' : Hp} {p : Addr} {o : HO} (e : Ex H H') (h : H p = none) : Ex H (upd H' p o) := fun a u ha => by rw [upd_ne (ne_of_none ha h)]; exact e a u ha
theorem Ex.back {H H' : Hp} {p : Addr} (e : Ex H H') (h : H' p = none) : H p = none := by
  cases h1 : H p with
  | none => rfl
  | some o => rw [e p o h1] at h; cases h
theorem Ex.rd {H H' : Hp} {a : Addr} {u : HO} (e : Ex H H') (h : Rd H a u) : Rd H' a u := by
  rcases h with h | ⟨o, h⟩
  · exact .inl (e a _ h)
  · exact .inr ⟨o, e a _ h⟩
theorem Ex.sqt {H H' : Hp} {a : Addr} {xs : List V} (e : Ex H H') (h : TupX K H a xs) : TupX K H' a xs := h.to fun o u q => e a _ q
theorem R.ex {d : D} {v : V} (e : Ex H H') (h : R K B H v d) : R K B H' v d := R.to (fun _ _ hb hr => ⟨hb, e.rd hr⟩) (fun _ _ q => e.sqt q) d v h
theorem RA.ex {ds : List D} {vs : List V} (e : Ex H H') (h : RA K B H vs ds) : RA K B H' vs ds := RA.to (fun _ _ hb hr => ⟨hb, e.rd hr⟩) (fun _ _ q => e.sqt q) ds vs h
theorem R.wider {d : D} {v : V} (e : ∀ a, B a → B' a) (h : R K B H v d) : R K B' H v d := R.to (fun _ _ hb hr => ⟨e _ hb, hr⟩) (fun _ _ q => q) d v h
theorem RA.wider {ds : List D} {vs : List V} (e : ∀ a, B a → B' a) (h : RA K B H vs ds) : RA K B' H vs ds := RA.to (fun _ _ hb hr => ⟨e _ hb, hr⟩) (fun _ _ q => q) ds vs h
theorem rd_some {H : Hp} {a : Addr} {u : HO} (h : Rd H a u) : H a ≠ none := by
  rcases h with h | ⟨o, h⟩ <;> (intro e; rw [e] at h; cases h)
/-- a free address is nowhere within -/
theorem R.free {d : D} {v : V} {p : Addr} (hp : H p = none) (h : R K B H v d) : R K (fun a => B a ∧ a ≠ p) H v d :=
  R.to (fun a xs hb hr => ⟨⟨hb, fun e => rd_some hr (e ▸ hp)⟩, hr⟩) (fun _ _ q => q) d v h
theorem RA.free {ds : List D} {vs : List V} {p : Addr} (hp : H p = none) (h : RA K B H vs ds) : RA K (fun a => B a ∧ a ≠ p) H vs ds :=
  RA.to (fun a xs hb hr => ⟨⟨hb, fun e => rd_some hr (e ▸ hp)⟩, hr⟩) (fun _ _ q => q) ds vs h
theorem RA.length {ds : List D} {vs : List V} (h : RA K B H vs ds) : vs.length = ds.length := by
  induction ds generalizing vs with
  | nil => cases h; rfl
  | cons d ds ih => cases h with | cons h1 h2 => simp [ih h2]
theorem RA.get : ∀ {ds : List D} {vs : List V}, RA K B H vs ds → ∀ {i : Nat} {d : D}, ds[i]? = some d → ∃ v, vs[i]? = some v ∧ R K B H v d
  | [], _, _, i, _, e => by simp at e
  | _ :: _, _, .cons h1 h2, 0, d, e => by simp at e; subst e; exact ⟨_, rfl, h1⟩
  | _ :: _, _, .cons h1 h2, i + 1, d, e => by
    obtain ⟨v, h, r⟩ := RA.get h2 (i := i) (d := d) (by simpa using e)
    exact ⟨v, by simpa using h, r⟩
theorem RA.getV : ∀ {ds : List D} {vs : List V}, RA K B H vs ds → ∀ {i : Nat} {v : V}, vs[i]? = some v → ∃ d, ds[i]? = some d ∧ R K B H v d
  | [], _, .nil, i, _, e => by simp at e
  | _ :: _, _, .cons h1 h2, 0, d, e => by simp at e; subst e; exact ⟨_, rfl, h1⟩
  | _ :: _, _, .cons h1 h2, i + 1, d, e => by
    obtain ⟨v, h, r⟩ := RA.getV h2 (i := i) (v := d) (by simpa using e)
    exact ⟨v, by simpa using h, r⟩
theorem RA.append : ∀ {ds es : List D} {vs us : List V}, RA K B H vs ds → RA K B H us es → RA K B H (vs ++ us) (ds ++ es)
  | [], _, _, _, .nil, h => h
  | _ :: _, _, _, _, .cons h1 h2, h => .cons h1 (RA.append h2 h)
theorem RA.take : ∀ {ds : List D} {vs : List V} (n : Nat), RA K B H vs ds → RA K B H (vs.take n) (ds.take n)
  | _, _, 0, _ => .nil
  | [], _, _ + 1, .nil => .nil
  | _ :: _, _, n + 1, .cons h1 h2 => .cons h1 (RA.take n h2)
theorem RA.drop : ∀ {ds : List D} {vs : List V} (n : Nat), RA K B H vs ds → RA K B H (vs.drop n) (ds.drop n)
  | _, _, 0, h => h
  | [], _, _ + 1, .nil => .nil
  | _ :: _, _, n + 1, .cons h1 h2 => RA.drop n h2
theorem RA.reverse : ∀ {ds : List D} {vs : List V}, RA K B H vs ds → RA K B H vs.reverse ds.reverse
  | [], _, .nil => .nil
  | d :: ds, v :: vs, .cons h1 h2 => by
    rw [List.reverse_cons, List.reverse_cons]
    exact RA.append (RA.reverse h2) (.cons h1 .nil)
theorem RA.set : ∀ {ds : List D} {vs : List V} {d : D} {v : V} (i : Nat), RA K B H vs ds → R K B H v d → RA K B H (vs.set i v) (ds.set i d)
  | [], _, _, _, _, .nil, _ => .nil
  | _ :: _, _, _, _, 0, .cons _ h2, h => .cons h h2
  | _ :: _, _, _, _, i + 1, .cons h1 h2, h => .cons h1 (RA.set i h2 h)
end

/-! ### slots -/
/-- a set of tuples, or an exception at a (its dict at dd, its fields) -/
inductive Kd where
  | set (ks : List (List Int))
  | exc (a dd : Addr) (fs : List (Str × D))
/-- a slot of data: shared data, or a list of the def's own that nothing else holds, or another thing -/
inductive Sl where
  | sh (d : D)
  | ow (ds : List D)
  | kd (k : Kd)
abbrev Sl.st (ks : List (List Int)) : Sl := .kd (.set ks)
/-- the set of the tuples ks at v -/
def HasSet (K : Fg) (H : Hp) (v : V) (ks : List (List Int)) : Prop := ∃ (a : Addr) (L : List (Addr × List Int)), v = .ref a ∧ H a = some (SetN a L) ∧ (∀ p ∈ L, TupX K H p.1 (p.2.map V.int)) ∧ ∀ k, k ∈ L.map (·.2) ↔ k ∈ ks
theorem HasSet.to {K : Fg} {H H' : Hp} {v : V} {ks : List (List Int)} (h : HasSet K H v ks) (hs : ∀ a L, H a = some (SetN a L) → H' a = some (SetN a L)) (ht : ∀ a xs, TupX K H a xs → TupX K H' a xs) : HasSet K H' v ks := by
  obtain ⟨a, L, h1, h2, h3, h4⟩ := h
  exact ⟨a, L, h1, hs _ _ h2, fun p hp => ht _ _ (h3 p hp), h4⟩
theorem HasSet.ex {K : Fg} {H H' : Hp} {v : V} {ks : List (List Int)} (h : HasSet K H v ks) (e : Ex H H') : HasSet K H' v ks := h.to (fun _ _ q => e _ _ q) fun _ _ q => e.sqt q
/-- another thing at v -/
def HasK (K : Fg) (H : Hp) (v : V) : Kd → Prop
  | .set ks => HasSet K H v ks
  | .exc a dd fs => v = .ref a ∧ ∃ vs : List (Str × V), H dd = some (.xd vs) ∧ vs.map (·.1) = fs.map (·.1) ∧ RA K (fun _ => False) H (vs.map (·.2)) (fs.map (·.2))
theorem HasK.to {K : Fg} {H H' : Hp} {v : V} {k : Kd} (h : HasK K H v k) (hs : ∀ a L, H a = some (SetN a L) → H' a = some (SetN a L)) (ht : ∀ a xs, TupX K H a xs → TupX K H' a xs) (hx : ∀ a fs, H a = some (.xd fs) → H' a = some (.xd fs)) : HasK K H' v k := by
  cases k with
  | set ks => exact HasSet.to h hs ht
  | exc a dd fs =>
    obtain ⟨h1, vs, h2, h3, h4⟩ := h
    exact ⟨h1, vs, hx _ _ h2, h3, RA.to (fun _ _ hb _ => hb.elim) ht _ _ h4⟩
theorem HasK.ex {K : Fg} {H H' : Hp} {v : V} {k : Kd} (h : HasK K H v k) (e : Ex H H') : HasK K H' v k := h.to (fun _ _ q => e _ _ q) (fun _ _ q => e.sqt q) fun _ _ q => e _ _ q
abbrev S := List (Option Sl)
def Own (σ : St) (s : S) (a : Addr) : Prop := ∃ (i : Nat) (ds : List D), s[i]? = some (some (Sl.ow ds)) ∧ σ[i]? = some (some (V.ref a))
/-- where clean data's lists may stand -/
def Cl (G : Addr → Prop) (σ : St) (s : S) (a : Addr) : Prop := G a ∧ ¬ Own σ s a

structure RS (K : Fg) (H0 : Hp) (G : Addr → Prop) (σ : St) (H : Hp) (s : S) : Prop where
  len : σ.length = s.length
  ex : Ex H0 H
  new : ∀ a, H a = none → G a
  sh : ∀ (i : Nat) (d : D), s[i]? = some (some (.sh d)) → ∃ v, σ[i]? = some (some v) ∧ R K (Cl G σ s) H v d
  ow : ∀ (i : Nat) (ds : List D), s[i]? = some (some (.ow ds)) → ∃ a xs, σ[i]? = some (some (.ref a)) ∧ H a = some (.lst xs) ∧ H0 a = none ∧ G a ∧ RA K (Cl G σ s) H xs ds
  inj : ∀ (i j : Nat) (di dj : List D) (a : Addr), s[i]? = some (some (.ow di)) → s[j]? = some (some (.ow dj)) → σ[i]? = some (some (.ref a)) → σ[j]? = some (some (.ref a)) → i = j
  st : ∀ (i : Nat) (k : Kd), s[i]? = some (some (.kd k)) → ∃ v, σ[i]? = some (some v) ∧ HasK K H v k
section
variable {K : Fg} {H0 H H' : Hp} {G : Addr → Prop} {σ σ' : St} {s s' : S}
theorem RS.mono (r : RS K H0 G σ H s) (e : Ex H H') : RS K H0 G σ H' s :=
  ⟨r.len, r.ex.trans e, fun a h => r.new a (e.back h), fun i d h => let ⟨v, h1, h2⟩ := r.sh i d h; ⟨v, h1, h2.ex e⟩,
    fun i ds h => let ⟨a, xs, h1, h2, h3, h4, h5⟩ := r.ow i ds h; ⟨a, xs, h1, e _ _ h2, h3, h4, h5.ex e⟩, r.inj, fun i ks h => let ⟨v, h1, h2⟩ := r.st i ks h; ⟨v, h1, h2.ex e⟩⟩
theorem RS.own_lst (r : RS K H0 G σ H s) {a : Addr} (h : Own σ s a) : ∃ xs, H a = some (.lst xs) ∧ H0 a = none := by
  obtain ⟨i, ds, h1, h2⟩ := h
  obtain ⟨b, xs, e1, e2, e3, _⟩ := r.ow i ds h1
  rw [h2] at e1; cases e1
  exact ⟨xs, e2, e3⟩
theorem RS.own_not (r : RS K H0 G σ H s) {p : Addr} (h : H p = none) : ¬ Own σ s p := fun o => by
  obtain ⟨xs, e, _⟩ := r.own_lst o
  rw [h] at e; cases e
theorem get_set {α : Type} {l : List α} {i j : Nat} {x y : α} (h : (l.set i x)[j]? = some y) : (j = i ∧ y = x ∧ i < l.length) ∨ (j ≠ i ∧ l[j]? = some y) := by
  by_cases e : j = i
  · subst e
    by_cases hl : j < l.length
    · rw [List.getElem?_set_self hl] at h
      exact .inl ⟨rfl, (Option.some.inj h).symm, hl⟩
    · rw [List.getElem?_eq_none (by rw [List.length_set]; omega)] at h; cases h
  · rw [List.getElem?_set_ne (Ne.symm e)] at h
    exact .inr ⟨e, h⟩
/-- a slot gets clean data -/
theorem RS.set (r : RS K H0 G σ H s) {v : V} {d : D} (i : Nat) (hv : R K (Cl G σ s) H v d) : RS K H0 G (σ.set i (some v)) H (s.set i (some (.sh d))) := by
  have ow' : ∀ a, Own (σ.set i (some v)) (s.set i (some (.sh d))) a → Own σ s a := fun a ⟨j, ds, h1, h2⟩ => by
    rcases get_set h1 with ⟨_, e, _⟩ | ⟨hj, h1⟩
    · cases e
    · rcases get_set h2 with ⟨e, _⟩ | ⟨_, h2⟩
      · exact (hj e).elim
      · exact ⟨j, ds, h1, h2⟩
  have cl : ∀ a, Cl G σ s a → Cl G (σ.set i (some v)) (s.set i (some (.sh d))) a := fun a ⟨h1, h2⟩ => ⟨h1, fun o => h2 (ow' a o)⟩
  refine ⟨by rw [List.length_set, List.length_set]; exact r.len, r.ex, r.new, fun j e h => ?_, fun j ds h => ?_, fun j k di dj a h1 h2 h3 h4 => ?_, fun j ks h => ?_⟩
  · rcases get_set h with ⟨rfl, e1, hl⟩ | ⟨hj, h⟩
    · cases e1
      exact ⟨v, List.getElem?_set_self (by rw [r.len]; exact hl), hv.wider cl⟩
    · obtain ⟨u, h1, h2⟩ := r.sh j e h
      exact ⟨u, by rw [List.getElem?_set_ne (Ne.symm hj)]; exact h1, h2.wider cl⟩
  · rcases get_set h with ⟨_, e1, _⟩ | ⟨hj, h⟩
    · cases e1
    · obtain ⟨a, xs, h1, h2, h3, h4, h5⟩ := r.ow j ds h
      exact ⟨a, xs, by rw [List.getElem?_set_ne (Ne.symm hj)]; exact h1, h2, h3, h4, h5.wider cl⟩
  · rcases get_set h1 with ⟨_, e, _⟩ | ⟨n1, h1⟩
    · cases e
    rcases get_set h2 with ⟨_, e, _⟩ | ⟨n2, h2⟩
    · cases e
    rw [List.getElem?_set_ne (Ne.symm n1)] at h3
    rw [List.getElem?_set_ne (Ne.symm n2)] at h4
    exact r.inj j k di dj a h1 h2 h3 h4
  · rcases get_set h with ⟨_, e1, _⟩ | ⟨hj, h⟩
    · cases e1
    · obtain ⟨u, h1, h2⟩ := r.st j ks h
      exact ⟨u, by rw [List.getElem?_set_ne (Ne.symm hj)]; exact h1, h2⟩
/-- a slot gets a set -/
theorem RS.setS (r : RS K H0 G σ H s) {v : V} {ks : Kd} (i : Nat) (hv : HasK K H v ks) : RS K H0 G (σ.set i (some v)) H (s.set i (some (.kd ks))) := by
  have ow' : ∀ a, Own (σ.set i (some v)) (s.set i (some (.kd ks))) a → Own σ s a := fun a ⟨j, ds, h1, h2⟩ => by
    rcases get_set h1 with ⟨_, e, _⟩ | ⟨hj, h1⟩
    · cases e
    · rcases get_set h2 with ⟨e, _⟩ | ⟨_, h2⟩
      · exact (hj e).elim
      · exact ⟨j, ds, h1, h2⟩
  have cl : ∀ a, Cl G σ s a → Cl G (σ.set i (some v)) (s.set i (some (.kd ks))) a := fun a ⟨h1, h2⟩ => ⟨h1, fun o => h2 (ow' a o)⟩
  refine ⟨by rw [List.length_set, List.length_set]; exact r.len, r.ex, r.new, fun j e h => ?_, fun j ds h => ?_, fun j k di dj a h1 h2 h3 h4 => ?_, fun j ks' h => ?_⟩
  · rcases get_set h with ⟨_, e1, _⟩ | ⟨hj, h⟩
    · cases e1
    · obtain ⟨u, h1, h2⟩ := r.sh j e h
      exact ⟨u, by rw [List.getElem?_set_ne (Ne.symm hj)]; exact h1, h2.wider cl⟩
  · rcases get_set h with ⟨_, e1, _⟩ | ⟨hj, h⟩
    · cases e1
    · obtain ⟨a, xs, h1, h2, h3, h4, h5⟩ := r.ow j ds h
      exact ⟨a, xs, by rw [List.getElem?_set_ne (Ne.symm hj)]; exact h1, h2, h3, h4, h5.wider cl⟩
  · rcases get_set h1 with ⟨_, e, _⟩ | ⟨n1, h1⟩
    · cases e
    rcases get_set h2 with ⟨_, e, _⟩ | ⟨n2, h2⟩
    · cases e
    rw [List.getElem?_set_ne (Ne.symm n1)] at h3
    rw [List.getElem?_set_ne (Ne.symm n2)] at h4
    exact r.inj j k di dj a h1 h2 h3 h4
  · rcases get_set h with ⟨rfl, e1, hl⟩ | ⟨hj, h⟩
    · cases e1
      exact ⟨v, List.getElem?_set_self (by rw [r.len]; exact hl), hv⟩
    · obtain ⟨u, h1, h2⟩ := r.st j ks' h
      exact ⟨u, by rw [List.getElem?_set_ne (Ne.symm hj)]; exact h1, h2⟩
/-- a slot gets a list that nothing else holds -/
theorem RS.setO (r : RS K H0 G σ H s) {p : Addr} {xs : List V} {ds : List D} (i : Nat) (e : Ex H H') (hp : H p = none) (h' : H' p = some (.lst xs)) (hx : RA K (fun a => Cl G σ s a ∧ a ≠ p) H' xs ds) :
    RS K H0 G (σ.set i (some (.ref p))) H' (s.set i (some (.ow ds))) := by
  have ow' : ∀ a, Own (σ.set i (some (.ref p))) (s.set i (some (.ow ds))) a → a = p ∨ Own σ s a := fun a ⟨j, es, h1, h2⟩ => by
    rcases get_set h1 with ⟨e1, _, _⟩ | ⟨hj, h1⟩
    · rcases get_set h2 with ⟨_, e2, _⟩ | ⟨n, h2⟩
      · cases e2; exact .inl rfl
      · exact (n e1).elim
    · rcases get_set h2 with ⟨e2, _⟩ | ⟨_, h2⟩
      · exact (hj e2).elim
      · exact .inr ⟨j, es, h1, h2⟩
  have cl : ∀ a, (Cl G σ s a ∧ a ≠ p) → Cl G (σ.set i (some (.ref p))) (s.set i (some (.ow ds))) a := fun a ⟨⟨h1, h2⟩, h3⟩ => ⟨h1, fun o => (ow' a o).elim h3 h2⟩
  have np : ∀ (j : Nat) (es : List D) (a : Addr), s[j]? = some (some (Sl.ow es)) → σ[j]? = some (some (.ref a)) → a ≠ p := fun j es a h1 h2 q => by
    obtain ⟨b, ys, e1, e2, _⟩ := r.ow j es h1
    rw [h2] at e1; cases e1
    rw [q, hp] at e2; cases e2
  refine ⟨by rw [List.length_set, List.length_set]; exact r.len, r.ex.trans e, fun a h => r.new a (e.back h), fun j d h => ?_, fun j es h => ?_, fun j k di dj a h1 h2 h3 h4 => ?_, fun j ks h => ?_⟩
  · rcases get_set h with ⟨_, e1, _⟩ | ⟨hj, h⟩
    · cases e1
    · obtain ⟨u, h1, h2⟩ := r.sh j d h
      exact ⟨u, by rw [List.getElem?_set_ne (Ne.symm hj)]; exact h1, ((h2.free hp).wider cl).ex e⟩
  · rcases get_set h with ⟨rfl, e1, hl⟩ | ⟨hj, h⟩
    · cases e1
      exact ⟨p, xs, List.getElem?_set_self (by rw [r.len]; exact hl), h', r.ex.back hp, r.new p hp, hx.wider cl⟩
    · obtain ⟨a, ys, h1, h2, h3, h4, h5⟩ := r.ow j es h
      exact ⟨a, ys, by rw [List.getElem?_set_ne (Ne.symm hj)]; exact h1, e _ _ h2, h3, h4, ((h5.free hp).wider cl).ex e⟩
  · rcases get_set h1 with ⟨j1, _, _⟩ | ⟨n1, h1⟩
    · rcases get_set h2 with ⟨k1, _, _⟩ | ⟨n2, h2⟩
      · rw [j1, k1]
      · rcases get_set h3 with ⟨_, e3, _⟩ | ⟨n3, _⟩
        · cases e3
          rw [List.getElem?_set_ne (Ne.symm n2)] at h4
          exact (np k dj p h2 h4 rfl).elim
        · exact (n3 j1).elim
    · rw [List.getElem?_set_ne (Ne.symm n1)] at h3
      rcases get_set h2 with ⟨k1, _, _⟩ | ⟨n2, h2⟩
      · rcases get_set h4 with ⟨_, e4, _⟩ | ⟨n4, _⟩
        · cases e4
          exact (np j di p h1 h3 rfl).elim
        · exact (n4 k1).elim
      · rw [List.getElem?_set_ne (Ne.symm n2)] at h4
        exact r.inj j k di dj a h1 h2 h3 h4
  · rcases get_set h with ⟨_, e1, _⟩ | ⟨hj, h⟩
    · cases e1
    · obtain ⟨u, h1, h2⟩ := r.st j ks h
      exact ⟨u, by rw [List.getElem?_set_ne (Ne.symm hj)]; exact h1, h2.ex e⟩
/-- a list of the def's own changes -/
theorem RS.mutO (r : RS K H0 G σ H s) {i : Nat} {a : Addr} {es ds : List D} {xs : List V} (hi : s[i]? = some (some (Sl.ow es))) (ha : σ[i]? = some (some (V.ref a))) (hx : RA K (Cl G σ s) H xs ds) : RS K H0 G σ (upd H a (.lst xs)) (s.set i (some (.ow ds))) := by
  obtain ⟨ys, hl, h0⟩ := r.own_lst ⟨i, es, hi, ha⟩
  have own : ∀ b, Own σ (s.set i (some (.ow ds))) b → Own σ s b := fun b ⟨j, es', h1, h2⟩ => by
    rcases get_set h1 with ⟨e1, _, _⟩ | ⟨hj, h1⟩
    · subst e1; exact ⟨j, es, hi, h2⟩
    · exact ⟨j, es', h1, h2⟩
  have oa : Own σ s a := ⟨i, es, hi, ha⟩
  have hl' : ∀ b zs, Cl G σ s b → Rd H b (.lst zs) → Cl G σ (s.set i (some (.ow ds))) b ∧ Rd (upd H a (.lst xs)) b (.lst zs) := fun b zs hb hr => by
    have ne : b ≠ a := fun q => hb.2 (by rw [q]; exact oa)
    refine ⟨⟨hb.1, fun o => hb.2 (own b o)⟩, ?_⟩
    rcases hr with h | ⟨o, h⟩
    · exact .inl (by rw [upd_ne ne]; exact h)
    · exact .inr ⟨o, by rw [upd_ne ne]; exact h⟩
  have ht' : ∀ b zs, TupX K H b zs → TupX K (upd H a (.lst xs)) b zs := fun b zs h => h.to fun o u q => by
    rw [upd_ne (fun w => by rw [w, hl] at q; cases q)]; exact q
  refine ⟨by rw [List.length_set]; exact r.len, r.ex.mut h0, fun b h => ?_, fun j d h => ?_, fun j es' h => ?_, fun j k di dj b h1 h2 h3 h4 => ?_, fun j ks h => ?_⟩
  · by_cases q : b = a
    · rw [q, upd_same] at h; cases h
    · rw [upd_ne q] at h; exact r.new b h
  · rcases get_set h with ⟨_, e1, _⟩ | ⟨hj, h⟩
    · cases e1
    · obtain ⟨u, h1, h2⟩ := r.sh j d h
      exact ⟨u, h1, R.to hl' ht' _ _ h2⟩
  · rcases get_set h with ⟨rfl, e1, hl2⟩ | ⟨hj, h⟩
    · cases e1
      obtain ⟨b, zs, h1, h2, h3, h4, h5⟩ := r.ow j es hi
      rw [ha] at h1; cases h1
      exact ⟨a, xs, ha, upd_same, h0, h4, RA.to hl' ht' _ _ hx⟩
    · obtain ⟨b, zs, h1, h2, h3, h4, h5⟩ := r.ow j es' h
      have ne : b ≠ a := fun q => hj (r.inj j i es' es a h hi (by rw [h1, q]) ha)
      exact ⟨b, zs, h1, by rw [upd_ne ne]; exact h2, h3, h4, RA.to hl' ht' _ _ h5⟩
  · have back : ∀ {j : Nat} {dj : List D}, (s.set i (some (.ow ds)))[j]? = some (some (.ow dj)) → ∃ dj', s[j]? = some (some (.ow dj')) := fun {j dj} h => by
      rcases get_set h with ⟨rfl, _, _⟩ | ⟨_, h⟩
      · exact ⟨es, hi⟩
      · exact ⟨dj, h⟩
    obtain ⟨di', h1⟩ := back h1
    obtain ⟨dj', h2⟩ := back h2
    exact r.inj j k di' dj' b h1 h2 h3 h4
  · rcases get_set h with ⟨_, e1, _⟩ | ⟨hj, h⟩
    · cases e1
    · obtain ⟨u, h1, h2⟩ := r.st j ks h
      exact ⟨u, h1, h2.to (fun b L q => by rw [upd_ne (fun w => by rw [w, hl] at q; cases q)]; exact q) ht' (fun b L q => by rw [upd_ne (fun w => by rw [w, hl] at q; cases q)]; exact q)⟩
/-- a slot is forgotten, or its list is shared from now on -/
theorem RS.share (r : RS K H0 G σ H s) {i : Nat} {es : List D} (hi : s[i]? = some (some (Sl.ow es))) : RS K H0 G σ H (s.set i (some (.sh (.list es)))) := by
  have own : ∀ b, Own σ (s.set i (some (.sh (.list es)))) b → Own σ s b ∧ ∀ a, σ[i]? = some (some (.ref a)) → b ≠ a := fun b ⟨j, es', h1, h2⟩ => by
    rcases get_set h1 with ⟨_, e1, _⟩ | ⟨hj, h1⟩
    · cases e1
    · exact ⟨⟨j, es', h1, h2⟩, fun a ha q => hj (r.inj j i es' es a h1 hi (by rw [h2, q]) ha)⟩
  have cl : ∀ a, Cl G σ s a → Cl G σ (s.set i (some (.sh (.list es)))) a := fun a ⟨h1, h2⟩ => ⟨h1, fun o => h2 (own a o).1⟩
  refine ⟨by rw [List.length_set]; exact r.len, r.ex, r.new, fun j d h => ?_, fun j es' h => ?_, fun j k di dj b h1 h2 h3 h4 => ?_, fun j ks h => ?_⟩
  · rcases get_set h with ⟨rfl, e1, _⟩ | ⟨hj, h⟩
    · cases e1
      obtain ⟨a, xs, h1, h2, h3, h4, h5⟩ := r.ow j es hi
      exact ⟨.ref a, h1, .lst (.inl ⟨⟨h4, fun o => (own a o).2 a h1 rfl⟩, .inl h2⟩) (h5.wider cl)⟩
    · obtain ⟨u, h1, h2⟩ := r.sh j d h
      exact ⟨u, h1, h2.wider cl⟩
  · rcases get_set h with ⟨_, e1, _⟩ | ⟨hj, h⟩
    · cases e1
    · obtain ⟨a, xs, h1, h2, h3, h4, h5⟩ := r.ow j es' h
      exact ⟨a, xs, h1, h2, h3, h4, h5.wider cl⟩
  · rcases get_set h1 with ⟨_, e1, _⟩ | ⟨_, h1⟩
    · cases e1
    rcases get_set h2 with ⟨_, e1, _⟩ | ⟨_, h2⟩
    · cases e1
    exact r.inj j k di dj b h1 h2 h3 h4
  · rcases get_set h with ⟨_, e1, _⟩ | ⟨hj, h⟩
    · cases e1
    · exact r.st j ks h
end
end DD

namespace DD
open PySem L2

theorem pe_imp {X : Cx} {e : Expr} {t u : TE} (h : PE X e t) (i : ∀ σ H Q, u σ H Q → t σ H Q) : PE X e u := ⟨fun pins s σ H Q I q => h.run pins s σ H Q I (i σ H Q q)⟩
theorem pt_imp {X : Cx} {e : Expr} {t u : TT} (h : PT X e t) (i : ∀ σ H Q, u σ H Q → t σ H Q) : PT X e u := ⟨fun pins s σ H Q I q => h.run pins s σ H Q I (i σ H Q q)⟩
theorem pw_imp {X : Cx} {e : Expr} {t u : TT} (h : PW X e t) (i : ∀ σ H Q, u σ H Q → t σ H Q) : PW X e u := ⟨fun w pins s σ H Q I q => h.run w pins s σ H Q I (i σ H Q q)⟩
theorem pa_imp {X : Cx} {es : List Expr} {t u : TA} (h : PA X es t) (i : ∀ σ H Q, u σ H Q → t σ H Q) : PA X es u := ⟨fun pos pins s σ H Q I q => h.run pos pins s σ H Q I (i σ H Q q)⟩
theorem ps_imp {X : Cx} {st : Stmt} {t u : TS} (h : PS X st t) (i : ∀ D σ H, u D σ H → t D σ H) : PS X st u := ⟨fun pins s σ H D I q => h.run pins s σ H D I (i D σ H q)⟩
theorem pss_imp {X : Cx} {st : List Stmt} {t u : TS} (h : PSs X st t) (i : ∀ D σ H, u D σ H → t D σ H) : PSs X st u := ⟨fun pins s σ H D I q => h.run pins s σ H D I (i D σ H q)⟩
theorem po_imp {X : Cx} {e : Option Expr} {t u : TO} (h : PO X e t) (i : ∀ σ H Q, u σ H Q → t σ H Q) : PO X e u := ⟨fun pins s σ H Q I q => h.run pins s σ H Q I (i σ H Q q)⟩

/-! ### readings over data -/
abbrev M := S → Option D
abbrev ML := S → Option (List D)
abbrev MB := S → Option Bool
/-- clean data, or a whole list of the def's own -/
def RB (K : Fg) (G : Addr → Prop) (σ : St) (s : S) (H : Hp) (v : V) (d : D) : Prop := R K (Cl G σ s) H v d ∨ ∃ (i : Nat) (ds : List D), s[i]? = some (some (Sl.ow ds)) ∧ σ[i]? = some (some v) ∧ d = .list ds
def tD (K : Fg) (m : M) : TE := fun σ H Q => ∃ H0 G s d, RS K H0 G σ H s ∧ m s = some d ∧ ∀ v H', Ex H H' → R K (Cl G σ s) H' v d → Q v H'
def tBo (K : Fg) (m : M) : TE := fun σ H Q => ∃ H0 G s d, RS K H0 G σ H s ∧ m s = some d ∧ ∀ v H', Ex H H' → RB K G σ s H' v d → Q v H'
def tL (K : Fg) (m : ML) : TE := fun σ H Q => ∃ H0 G s ds, RS K H0 G σ H s ∧ m s = some ds ∧ ∀ p xs H', H p = none → Ex H H' → H' p = some (.lst xs) → RA K (fun a => Cl G σ s a ∧ a ≠ p) H' xs ds → Q (.ref p) H'
def tT (K : Fg) (m : MB) : TT := fun σ H Q => ∃ H0 G s b, RS K H0 G σ H s ∧ m s = some b ∧ ∀ H', Ex H H' → Q b H'
def tAc (K : Fg) (m : ML) : TA := fun σ H Q => ∃ H0 G s ds, RS K H0 G σ H s ∧ m s = some ds ∧ ∀ vs H', Ex H H' → RA K (Cl G σ s) H' vs ds → Q vs H'
def tAb (K : Fg) (m : ML) : TA := fun σ H Q => ∃ H0 G s ds, RS K H0 G σ H s ∧ m s = some ds ∧ ∀ vs H', Ex H H' → RA K (fun _ => True) H' vs ds → Q vs H'
abbrev XE (K : Fg) (X : Cx) (e : Expr) (m : M) := PE X e (tD K m)
abbrev XB (K : Fg) (X : Cx) (e : Expr) (m : M) := PE X e (tBo K m)
abbrev XL (K : Fg) (X : Cx) (e : Expr) (m : ML) := PE X e (tL K m)
abbrev XT (K : Fg) (X : Cx) (e : Expr) (m : MB) := PT X e (tT K m)
abbrev XW (K : Fg) (X : Cx) (e : Expr) (m : MB) := PW X e (tT K m)
abbrev XA (K : Fg) (X : Cx) (es : List Expr) (m : ML) := PA X es (tAc K m)
abbrev XAb (K : Fg) (X : Cx) (es : List Expr) (m : ML) := PA X es (tAb K m)

section
variable {K : Fg} {X : Cx} {H0 H H' : Hp} {G : Addr → Prop} {σ : St} {s : S}
theorem RB.any {v : V} {d : D} (r : RS K H0 G σ H s) (e : Ex H H') (h : RB K G σ s H' v d) : R K (fun _ => True) H' v d := by
  rcases h with h | ⟨i, ds, h1, h2, rfl⟩
  · exact h.wider fun _ _ => trivial
  · obtain ⟨a, xs, e1, e2, _, _, e3⟩ := (r.mono e).ow i ds h1
    rw [h2] at e1; cases e1
    exact .lst (.inl ⟨trivial, .inl e2⟩) (e3.wider fun _ _ => trivial)
theorem some_bind {α β : Type} {x : Option α} {f : α → Option β} {b : β} (h : x.bind f = some b) : ∃ a, x = some a ∧ f a = some b := by
  cases x with
  | none => cases h
  | some a => exact ⟨a, rfl, h⟩
theorem x_b {e : Expr} {m : M} (h : XE K X e m) : XB K X e m := pe_imp h fun σ H Q ⟨H0, G, s, d, r, e, q⟩ => ⟨H0, G, s, d, r, e, fun v H' e1 rv => q v H' e1 (.inl rv)⟩
/-- a fresh list as data -/
def mL (m : ML) : M := fun s => (m s).map .list
theorem l_x {e : Expr} {m : ML} (h : XL K X e m) : XE K X e (mL m) := pe_imp h fun σ H Q ⟨H0, G, s, d, r, e, q⟩ => by
  unfold mL at e
  cases hm : m s with
  | none => rw [hm] at e; cases e
  | some ds =>
    rw [hm] at e; cases e
    exact ⟨H0, G, s, ds, r, hm, fun p xs H' hp e1 h1 hx => q _ H' e1 (.lst (.inl ⟨⟨r.new p hp, r.own_not hp⟩, .inl h1⟩) (hx.wider fun a z => z.1))⟩
theorem l_b {e : Expr} {m : ML} (h : XL K X e m) : XB K X e (mL m) := x_b (l_x h)

/-! ### names and constants -/
def mC (d : D) : M := fun _ => some d
def mVar (i : Nat) : M := fun s => match s[i]? with | some (some (.sh d)) => some d | _ => none
def mVarB (i : Nat) : M := fun s => match s[i]? with | some (some (.sh d)) => some d | some (some (.ow ds)) => some (.list ds) | _ => none
theorem x_int {i : Int} {j pos} : XE K X (.Constant (.int i) j pos) (mC (.int i)) := pe_imp pe_int fun σ H Q ⟨H0, G, s, d, r, e, q⟩ => by cases e; exact q _ _ (Ex.refl _) (.int i)
theorem x_bl {b : Bool} {j pos} : XE K X (.Constant (.bool b) j pos) (mC (.bool b)) := pe_imp pe_bl fun σ H Q ⟨H0, G, s, d, r, e, q⟩ => by cases e; exact q _ _ (Ex.refl _) (.bl b)
theorem x_non {j pos} : XE K X (.Constant .none j pos) (mC .none) := pe_imp pe_non fun σ H Q ⟨H0, G, s, d, r, e, q⟩ => by cases e; exact q _ _ (Ex.refl _) .non
theorem x_str {x : Str} {j pos} (h : (PyData.str x).canLay0 = true := by decide) : XE K X (.Constant (.str x) j pos) (mC (.str x)) := pe_imp pe_str fun σ H Q ⟨H0, G, s, d, r, e, q⟩ => by cases e; exact q _ _ (Ex.refl _) (.str h)
theorem x_pv {i : Nat} {e : Expr} (h : PE X e (tVar i)) : XE K X e (mVar i) := pe_imp h fun σ H Q ⟨H0, G, s, d, r, e, q⟩ => by
  unfold mVar at e
  split at e
  · rename_i z
    cases e
    obtain ⟨v, h1, h2⟩ := r.sh i d z
    exact ⟨v, h1, q v H (Ex.refl _) h2⟩
  · cases e
theorem b_pv {i : Nat} {e : Expr} (h : PE X e (tVar i)) : XB K X e (mVarB i) := pe_imp h fun σ H Q ⟨H0, G, s, d, r, e, q⟩ => by
  unfold mVarB at e
  split at e
  · rename_i z
    cases e
    obtain ⟨v, h1, h2⟩ := r.sh i d z
    exact ⟨v, h1, q v H (Ex.refl _) (.inl h2)⟩
  · rename_i ds z
    cases e
    obtain ⟨a, xs, h1, _⟩ := r.ow i ds z
    exact ⟨.ref a, h1, q _ H (Ex.refl _) (.inr ⟨i, ds, z, h1, rfl⟩)⟩
  · cases e

/-! ### operators that give a plain value and leave the heap -/
def OpS (K : Fg) (r : R2) (f : D → D → Option D) : Prop := ∀ (H : Hp) (x y : V) (d e z : D), R K (fun _ => True) H x d → R K (fun _ => True) H y e → f d e = some z → ∃ v, R K (fun _ => False) H v z ∧ ∀ Q : VK, Q v H → r x y H Q
def UnS (K : Fg) (r : V → Hp → VK → Prop) (f : D → Option D) : Prop := ∀ (H : Hp) (x : V) (d z : D), R K (fun _ => True) H x d → f d = some z → ∃ v, R K (fun _ => False) H v z ∧ ∀ Q : VK, Q v H → r x H Q
def m2 (f : D → D → Option D) (a b : M) : M := fun s => (a s).bind fun x => (b s).bind fun y => f x y
def m1 (f : D → Option D) (a : M) : M := fun s => (a s).bind f
theorem rd2 {r : R2} {f : D → D → Option D} {ma mb : M} (hs : OpS K r f) {σ : St} {H : Hp} {Q : VK} (h : tD K (m2 f ma mb) σ H Q) : tOp r (tBo K ma) (tBo K mb) σ H Q := by
  obtain ⟨H0, G, s, d, rs, e, q⟩ := h
  obtain ⟨x, ex, e⟩ := some_bind e
  obtain ⟨y, ey, ez⟩ := some_bind e
  refine ⟨H0, G, s, x, rs, ex, fun v H1 e1 rv => ⟨H0, G, s, y, rs.mono e1, ey, fun u H2 e2 ru => ?_⟩⟩
  obtain ⟨w, hw, k⟩ := hs H2 v u x y d ((RB.any rs e1 rv).ex e2) (RB.any (rs.mono e1) e2 ru) ez
  exact k Q (q w H2 (e1.trans e2) (hw.wider fun _ z => z.elim))
theorem rd1 {r : V → Hp → VK → Prop} {f : D → Option D} {ma : M} (hs : UnS K r f) {σ : St} {H : Hp} {Q : VK} (h : tD K (m1 f ma) σ H Q) : tUn r (tBo K ma) σ H Q := by
  obtain ⟨H0, G, s, d, rs, e, q⟩ := h
  obtain ⟨x, ex, ez⟩ := some_bind e
  refine ⟨H0, G, s, x, rs, ex, fun v H1 e1 rv => ?_⟩
  obtain ⟨w, hw, k⟩ := hs H1 v x d (RB.any rs e1 rv) ez
  exact k Q (q w H1 e1 (hw.wider fun _ z => z.elim))
def boolOf : D → Option Bool
  | .bool b => some b
  | _ => none
/-- a value that is a bool, as a test -/
def mT (m : M) : MB := fun s => (m s).bind boolOf
theorem boolOf_some {d : D} {b : Bool} (h : boolOf d = some b) : d = .bool b := by
  cases d <;> simp [boolOf] at h
  rw [h]
theorem tT_tD {m : M} {σ : St} {H : Hp} {Q : Bool → Hp → Prop} (h : tT K (mT m) σ H Q) : tD K m σ H fun x H1 => ∃ c, x = .bl c ∧ Q c H1 := by
  obtain ⟨H0, G, s, b, rs, e, q⟩ := h
  obtain ⟨d, ed, eb⟩ := some_bind e
  have e2 := boolOf_some eb
  subst e2
  refine ⟨H0, G, s, _, rs, ed, fun v H1 e1 rv => ?_⟩
  cases rv
  exact ⟨b, rfl, q H1 e1⟩
section
variable {a b e : Expr} {ma mb mc : M} {pos : Pos}
theorem x_op {op : Operator} {r : R2} {f : D → D → Option D} (ho : OpR X (binaryOp op) r) (hs : OpS K r f) (ha : XB K X a ma) (hb : XB K X b mb) : XE K X (.BinOp a op b pos) (m2 f ma mb) := pe_imp (pe_op ho ha hb) fun _ _ _ h => rd2 hs h
theorem x_un {op : UnaryOp} {r : V → Hp → VK → Prop} {f : D → Option D} (ho : UnR X (unaryOp op) r) (hs : UnS K r f) (ha : XB K X a ma) : XE K X (.UnaryOp op a pos) (m1 f ma) := pe_imp (pe_un ho ha) fun _ _ _ h => rd1 hs h
theorem x_cmp {op : CmpOp} {r : R2} {f : D → D → Option D} (ho : OpR X (compareOp op) r) (hs : OpS K r f) (ha : XB K X a ma) (hb : XB K X b mb) (hm : behindInMarks op b = false) : XE K X (.Compare a [op] [b] pos) (m2 f ma mb) := pe_imp (pe_cmpR ho ha hb hm) fun _ _ _ h => rd2 hs h
theorem t_cmp {op : CmpOp} {r : R2} {f : D → D → Option D} (ho : OpR X (compareOp op) r) (hs : OpS K r f) (ha : XB K X a ma) (hb : XB K X b mb) (hm : behindInMarks op b = false) : XT K X (.Compare a [op] [b] pos) (mT (m2 f ma mb)) :=
  pt_imp (pt_cmpR ho ha hb hm) fun _ _ _ h => rd2 hs (tT_tD h)
theorem t_val (h : XE K X e ma) (he : ∀ whole, isTrue e X.env whole = (do let v ← whole; standAt e.pos; holding [v] (truthy v)) := by intro _; rfl) : XT K X e (mT ma) := pt_imp (pt_val h he) fun _ _ _ h => tT_tD h
/-- a < b < c -/
def mChain (f g : D → D → Option D) (a b c : M) : M := fun s => (a s).bind fun x => (b s).bind fun y => (f x y).bind fun k => (boolOf k).bind fun t => if t = true then (c s).bind fun z => g y z else some (.bool false)
theorem rdChain {r r' : R2} {f g : D → D → Option D} (hs : OpS K r f) (hs' : OpS K r' g) {σ : St} {H : Hp} {Q : VK} (h : tD K (mChain f g ma mb mc) σ H Q) : tChain r r' (tBo K ma) (tBo K mb) (tBo K mc) σ H Q := by
  obtain ⟨H0, G, s, d, rs, e, q⟩ := h
  obtain ⟨x, ex, e⟩ := some_bind e
  obtain ⟨y, ey, e⟩ := some_bind e
  obtain ⟨k, ek, e⟩ := some_bind e
  obtain ⟨t, et, e4⟩ := some_bind e
  clear e
  have e2 := boolOf_some et
  subst e2
  refine ⟨H0, G, s, x, rs, ex, fun v H1 e1 rv => ⟨H0, G, s, y, rs.mono e1, ey, fun u H2 e2 ru => ?_⟩⟩
  obtain ⟨w, hw, kk⟩ := hs H2 v u x y _ ((RB.any rs e1 rv).ex e2) (RB.any (rs.mono e1) e2 ru) ek
  refine kk _ ?_
  cases hw
  refine ⟨t, rfl, ?_⟩
  cases t with
  | false =>
    rw [if_neg Bool.false_ne_true]
    rw [if_neg Bool.false_ne_true] at e4
    cases e4
    exact q _ H2 (e1.trans e2) (.bl false)
  | true =>
    rw [if_pos rfl]
    rw [if_pos rfl] at e4
    obtain ⟨z, ez, e4⟩ := some_bind e4
    refine ⟨H0, G, s, z, rs.mono (e1.trans e2), ez, fun u3 H3 e3 r3 => ?_⟩
    obtain ⟨w', hw', kk'⟩ := hs' H3 u u3 y z d ((RB.any (rs.mono e1) e2 ru).ex e3) (RB.any (rs.mono (e1.trans e2)) e3 r3) e4
    exact kk' Q (q w' H3 ((e1.trans e2).trans e3) (hw'.wider fun _ z => z.elim))
theorem x_chain {op op' : CmpOp} {r r' : R2} {f g : D → D → Option D} {c : Expr} (ho : OpR X (compareOp op) r) (ho' : OpR X (compareOp op') r') (hs : OpS K r f) (hs' : OpS K r' g) (ha : XB K X a ma) (hb : XB K X b mb) (hc : XB K X c mc)
    (hm : lastMarks [op, op'] [b, c] = false := by with_unfolding_all rfl) : XE K X (.Compare a [op, op'] [b, c] pos) (mChain f g ma mb mc) := pe_imp (pe_chain ho ho' ha hb hc hm) fun _ _ _ h => rdChain hs hs' h
theorem t_chain {op op' : CmpOp} {r r' : R2} {f g : D → D → Option D} {c : Expr} (ho : OpR X (compareOp op) r) (ho' : OpR X (compareOp op') r') (hs : OpS K r f) (hs' : OpS K r' g) (ha : XB K X a ma) (hb : XB K X b mb) (hc : XB K X c mc)
    (hm : lastMarks [op, op'] [b, c] = false := by with_unfolding_all rfl) : XT K X (.Compare a [op, op'] [b, c] pos) (mT (mChain f g ma mb mc)) := pt_imp (pt_chain ho ho' ha hb hc hm) fun _ _ _ h => rdChain hs hs' (tT_tD h)

/-! ### and, or, not, if -/
def mAnd (a b : MB) : MB := fun s => (a s).bind fun x => if x = true then b s else some false
def mOr (a b : MB) : MB := fun s => (a s).bind fun x => if x = true then some true else b s
def mNot (a : MB) : MB := fun s => (a s).map (!·)
variable {ta tb : MB} {rest : List Expr}
theorem t_not (ha : XT K X a ta) : XT K X (.UnaryOp .Not a pos) (mNot ta) := pt_imp (pt_not ha) fun σ H Q ⟨H0, G, s, d, r, e, q⟩ => by
  unfold mNot at e
  cases hx : ta s with
  | none => rw [hx] at e; cases e
  | some x =>
    rw [hx] at e; cases e
    exact ⟨H0, G, s, x, r, hx, fun H' e1 => q H' e1⟩
theorem w_and (ha : XT K X a ta) (hb : XW K X (.BoolOp .And (b :: rest) pos) tb) : XW K X (.BoolOp .And (a :: b :: rest) pos) (mAnd ta tb) := pw_imp (pw_and ha hb) fun σ H Q ⟨H0, G, s, d, r, e, q⟩ => by
  obtain ⟨x, ex, e⟩ := some_bind e
  refine ⟨H0, G, s, x, r, ex, fun H1 e1 => ?_⟩
  cases x with
  | true =>
    rw [if_pos rfl] at e ⊢
    exact ⟨H0, G, s, d, r.mono e1, e, fun H2 e2 => q H2 (e1.trans e2)⟩
  | false =>
    rw [if_neg Bool.false_ne_true] at e ⊢
    cases e
    exact q H1 e1
theorem w_or (ha : XT K X a ta) (hb : XW K X (.BoolOp .Or (b :: rest) pos) tb) : XW K X (.BoolOp .Or (a :: b :: rest) pos) (mOr ta tb) := pw_imp (pw_or ha hb) fun σ H Q ⟨H0, G, s, d, r, e, q⟩ => by
  obtain ⟨x, ex, e⟩ := some_bind e
  refine ⟨H0, G, s, x, r, ex, fun H1 e1 => ?_⟩
  cases x with
  | false =>
    rw [if_neg Bool.false_ne_true] at e ⊢
    exact ⟨H0, G, s, d, r.mono e1, e, fun H2 e2 => q H2 (e1.trans e2)⟩
  | true =>
    rw [if_pos rfl] at e ⊢
    cases e
    exact q H1 e1
theorem w_and1 (ha : XT K X a ta) : XW K X (.BoolOp .And [a] pos) ta := pw_and1 ha
theorem w_or1 (ha : XT K X a ta) : XW K X (.BoolOp .Or [a] pos) ta := pw_or1 ha
theorem t_w (h : XW K X e ta) : XT K X e ta := h.pt
/-- .. as values, all but the last one bools -/
def mAndV (a b : M) : M := fun s => (a s).bind fun x => (boolOf x).bind fun t => if t = true then b s else some (.bool false)
def mOrV (a b : M) : M := fun s => (a s).bind fun x => (boolOf x).bind fun t => if t = true then some (.bool true) else b s
def mNotV (a : M) : M := fun s => (a s).bind fun x => (boolOf x).map fun t => .bool (!t)
theorem x_one {op} (h : XE K X a ma) : XE K X (.BoolOp op [a] pos) ma := pe_one h
theorem x_and (ha : XE K X a ma) (hb : XE K X (.BoolOp .And (b :: rest) pos) mb) : XE K X (.BoolOp .And (a :: b :: rest) pos) (mAndV ma mb) := pe_imp (pe_and ha hb) fun σ H Q ⟨H0, G, s, d, r, e, q⟩ => by
  obtain ⟨x, ex, e⟩ := some_bind e
  obtain ⟨t, et, e4⟩ := some_bind e
  clear e
  have e2 := boolOf_some et
  subst e2
  refine ⟨H0, G, s, _, r, ex, fun v H1 e1 rv => ?_⟩
  cases rv
  refine ⟨t, rfl, ?_⟩
  cases t with
  | true =>
    rw [if_pos rfl] at e4 ⊢
    exact ⟨H0, G, s, d, r.mono e1, e4, fun v H2 e2 => q v H2 (e1.trans e2)⟩
  | false =>
    rw [if_neg Bool.false_ne_true] at e4 ⊢
    cases e4
    exact q _ H1 e1 (.bl false)
theorem x_or (ha : XE K X a ma) (hb : XE K X (.BoolOp .Or (b :: rest) pos) mb) : XE K X (.BoolOp .Or (a :: b :: rest) pos) (mOrV ma mb) := pe_imp (pe_or ha hb) fun σ H Q ⟨H0, G, s, d, r, e, q⟩ => by
  obtain ⟨x, ex, e⟩ := some_bind e
  obtain ⟨t, et, e4⟩ := some_bind e
  clear e
  have e2 := boolOf_some et
  subst e2
  refine ⟨H0, G, s, _, r, ex, fun v H1 e1 rv => ?_⟩
  cases rv
  refine ⟨t, rfl, ?_⟩
  cases t with
  | false =>
    rw [if_neg Bool.false_ne_true] at e4 ⊢
    exact ⟨H0, G, s, d, r.mono e1, e4, fun v H2 e2 => q v H2 (e1.trans e2)⟩
  | true =>
    rw [if_pos rfl] at e4 ⊢
    cases e4
    exact q _ H1 e1 (.bl true)
theorem x_not (ha : XE K X a ma) : XE K X (.UnaryOp .Not a pos) (mNotV ma) := pe_imp (pe_not ha) fun σ H Q ⟨H0, G, s, d, r, e, q⟩ => by
  obtain ⟨x, ex, e⟩ := some_bind e
  cases hb : boolOf x with
  | none => rw [hb] at e; cases e
  | some t =>
    rw [hb] at e; cases e
    have e2 := boolOf_some hb
    subst e2
    refine ⟨H0, G, s, _, r, ex, fun v H1 e1 rv => ?_⟩
    cases rv
    exact ⟨t, rfl, q _ H1 e1 (.bl _)⟩
def mIf (c : MB) (a b : M) : M := fun s => (c s).bind fun x => if x = true then a s else b s
theorem x_if {c : Expr} (hc : XT K X c ta) (ha : XE K X a ma) (hb : XE K X b mb) : XE K X (.IfExp c a b pos) (mIf ta ma mb) := pe_imp (pe_ifExp hc ha hb) fun σ H Q ⟨H0, G, s, d, r, e, q⟩ => by
  obtain ⟨x, ex, e⟩ := some_bind e
  refine ⟨H0, G, s, x, r, ex, fun H1 e1 => ?_⟩
  cases x with
  | true =>
    rw [if_pos rfl] at e ⊢
    exact ⟨H0, G, s, d, r.mono e1, e, fun v H2 e2 => q v H2 (e1.trans e2)⟩
  | false =>
    rw [if_neg Bool.false_ne_true] at e ⊢
    exact ⟨H0, G, s, d, r.mono e1, e, fun v H2 e2 => q v H2 (e1.trans e2)⟩

theorem _root_.L2.HOk.free0 {P : Program} {w : World} {H : Hp} {h : Heap} (x : HOk P w H h) : H h.objs.size = none := x.fresh (Nat.le_refl _)
/-! ### argument lists, displays -/
def mNil : ML := fun _ => some []
def mCons (a : M) (r : ML) : ML := fun s => (a s).bind fun x => (r s).map (x :: ·)
variable {es : List Expr} {ms : ML}
theorem mCons_some {a : M} {r : ML} {s : S} {ds : List D} (h : mCons a r s = some ds) : ∃ x xs, a s = some x ∧ r s = some xs ∧ ds = x :: xs := by
  obtain ⟨x, ex, e⟩ := some_bind h
  cases hr : r s with
  | none => rw [hr] at e; cases e
  | some xs => rw [hr] at e; cases e; exact ⟨x, xs, ex, rfl, rfl⟩
theorem a_nil : XA K X [] mNil := pa_imp pa_nil fun σ H Q ⟨H0, G, s, d, r, e, q⟩ => by cases e; exact q [] H (Ex.refl _) .nil
theorem a_cons (ha : XE K X e ma) (hr : XA K X es ms) (hs : starEach (e :: es) X.env = (false, eval e X.env) :: starEach es X.env := by rfl) : XA K X (e :: es) (mCons ma ms) := pa_imp (pa_cons ha hr hs) fun σ H Q ⟨H0, G, s, d, r, e, q⟩ => by
  obtain ⟨x, xs, ex, exs, rfl⟩ := mCons_some e
  exact ⟨H0, G, s, x, r, ex, fun v H1 e1 rv => ⟨H0, G, s, xs, r.mono e1, exs, fun vs H2 e2 rvs => q (v :: vs) H2 (e1.trans e2) (.cons (rv.ex e2) rvs)⟩⟩
theorem ab_nil : XAb K X [] mNil := pa_imp pa_nil fun σ H Q ⟨H0, G, s, d, r, e, q⟩ => by cases e; exact q [] H (Ex.refl _) .nil
theorem ab_cons (ha : XB K X e ma) (hr : XAb K X es ms) (hs : starEach (e :: es) X.env = (false, eval e X.env) :: starEach es X.env := by rfl) : XAb K X (e :: es) (mCons ma ms) := pa_imp (pa_cons ha hr hs) fun σ H Q ⟨H0, G, s, d, r, e, q⟩ => by
  obtain ⟨x, xs, ex, exs, rfl⟩ := mCons_some e
  exact ⟨H0, G, s, x, r, ex, fun v H1 e1 rv => ⟨H0, G, s, xs, r.mono e1, exs, fun vs H2 e2 rvs => q (v :: vs) H2 (e1.trans e2) (.cons ((RB.any r e1 rv).ex e2) rvs)⟩⟩
theorem sz_le {n : Nat} (h : n ≤ 100000) : n ≤ sizeLine := Nat.le_trans h (by decide)
theorem sz_lt {n : Nat} (h : n < 100000) : n < sizeLine := Nat.lt_of_lt_of_le h (by decide)
def mTup (r : ML) : M := fun s => (r s).bind fun ds => if ds.length ≤ 100000 then some (.tuple ds) else none
def mLst (r : ML) : ML := fun s => (r s).bind fun ds => if ds.length ≤ 100000 then some ds else none
theorem if_some {α : Type} {c : Prop} [Decidable c] {x : Option α} {y : α} (h : (if c then x else none) = some y) : c ∧ x = some y := by
  by_cases hc : c
  · rw [if_pos hc] at h; exact ⟨hc, h⟩
  · rw [if_neg hc] at h; cases h
/-- a written tuple, known to its object -/
def tTupF (t : TA) : TE := fun σ H Q => t σ H fun xs H1 => xs.length ≤ sizeLine ∧ ∀ p o, H1 p = none → o.cls = .type "tuple" → o.dict = none → Q (.ref p) (upd H1 p (.frz o (.tup xs)))
theorem tup_laid {pins : List (Addr × Obj)} {σ : St} {H : Hp} {s : Shared} {xs : List V} {us : List Value} {t' : Nat} (I : Inv X pins σ H s) (r : Vals xs us) (z : xs.length ≤ sizeLine) :
    Inv X pins σ (upd H s.heap.objs.size (.frz { cls := .type "tuple", data := .seq us.toArray } (.tup xs))) { s with heap := s.heap.push { cls := .type "tuple", data := .seq us.toArray }, toks := t' } :=
  I.laid (fun _ _ q => Heap.get?_push_of_some _ q) (Nat.le_refl _) ⟨Heap.get?_push_size _ rfl, z, us, r, ⟨_, Heap.get?_push_size _ rfl, rfl, _, rfl⟩⟩
theorem pe_tupF {k1 : Nat} {t : TA} (h : PA X es t) : PE X (.Tuple es k1 pos) (tTupF t) := ⟨fun pins s σ H Q I hq => by
  refine wpAny_Tuple_spliced (thn (h.run pos pins s σ H _ I hq) fun us s1 hh => ?_)
  obtain ⟨xs, H1, I1, r, z, q⟩ := hh
  refine ⟨by rw [← r.length]; exact z, .ref s1.heap.objs.size, _, tup_laid (t' := s1.toks) I1 r z, rfl, q _ _ I1.hok.free0 rfl rfl⟩⟩
theorem x_tup {k1} (h : XA K X es ms) : XE K X (.Tuple es k1 pos) (mTup ms) := pe_imp (pe_tupF h) fun σ H Q ⟨H0, G, s, d, r, e, q⟩ => by
  obtain ⟨ds, ed, e⟩ := some_bind e
  obtain ⟨hl, e⟩ := if_some e
  cases e
  refine ⟨H0, G, s, ds, r, ed, fun vs H1 e1 rv => ⟨sz_le (by rw [rv.length]; exact hl), fun p o hp hc hd => ?_⟩⟩
  exact q _ _ (e1.trans (Ex.new hp)) (.tup (.inl ⟨o, upd_same, hc, hd⟩) (rv.ex (Ex.new hp)))
theorem l_lst (h : XA K X es ms) : XL K X (.List es pos) (mLst ms) := pe_imp (pe_lst h) fun σ H Q ⟨H0, G, s, d, r, e, q⟩ => by
  obtain ⟨ds, ed, e⟩ := some_bind e
  obtain ⟨hl, e⟩ := if_some e
  cases e
  refine ⟨H0, G, s, _, r, ed, fun vs H1 e1 rv => ⟨sz_le (by rw [rv.length]; exact hl), fun p hp => ?_⟩⟩
  exact q p vs _ (e1.back hp) (e1.trans (Ex.new hp)) upd_same ((rv.free hp).ex (Ex.new hp))
end
end
end DD

namespace DD
open PySem L2
section
variable {K : Fg} {X : Cx}
/-! ### what plain operators do to data -/
def fInt (C : Int → Int → Prop) [∀ i j, Decidable (C i j)] (g : Int → Int → D) : D → D → Option D
  | .int i, .int j => if C i j then some (g i j) else none
  | _, _ => none
theorem os_int0 {g : Int → Int → V} {f : Int → Int → D} (h : ∀ (H : Hp) i j, R K (fun _ => False) H (g i j) (f i j)) : OpS K (rI0 g) (fInt (fun _ _ => True) f) := by
  intro H x y d e z rx ry hz
  cases d <;> try (simp [fInt] at hz)
  cases e <;> try (simp [fInt] at hz)
  subst hz
  cases rx; cases ry
  exact ⟨_, h H _ _, fun Q q => ⟨_, _, rfl, rfl, q⟩⟩
theorem os_int {C : Int → Int → Prop} [∀ i j, Decidable (C i j)] {g : Int → Int → V} {f : Int → Int → D} (h : ∀ (H : Hp) i j, R K (fun _ => False) H (g i j) (f i j)) : OpS K (rI C g) (fInt C f) := by
  intro H x y d e z rx ry hz
  cases d <;> try (simp [fInt] at hz)
  cases e <;> try (simp [fInt] at hz)
  obtain ⟨hc, rfl⟩ := hz
  cases rx; cases ry
  exact ⟨_, h H _ _, fun Q q => ⟨_, _, rfl, rfl, hc, q⟩⟩
/-- the first of two that answers -/
def fOr (f g : D → D → Option D) : D → D → Option D := fun d e => (f d e).orElse fun _ => g d e
theorem os_or {r r' : R2} {f g : D → D → Option D} (h : OpS K r f) (h' : OpS K r' g) : OpS K (fun x y H Q => r x y H Q ∨ r' x y H Q) (fOr f g) := by
  intro H x y d e z rx ry hz
  unfold fOr at hz
  cases hf : f d e with
  | some z' =>
    rw [hf] at hz
    have e1 : z' = z := Option.some.inj hz
    subst e1
    obtain ⟨v, hv, k⟩ := h H x y d e z' rx ry hf
    exact ⟨v, hv, fun Q q => .inl (k Q q)⟩
  | none =>
    rw [hf] at hz
    obtain ⟨v, hv, k⟩ := h' H x y d e z rx ry hz
    exact ⟨v, hv, fun Q q => .inr (k Q q)⟩
instance {i j : Int} : Decidable (CMul i j) := by unfold CMul; exact inferInstance
instance {i j : Int} : Decidable (CDiv i j) := by unfold CDiv; exact inferInstance
instance {i j : Int} : Decidable (CPow i j) := by unfold CPow; exact inferInstance
theorem lay_append {x y : Str} (hx : (PyData.str x).canLay0 = true) (hy : (PyData.str y).canLay0 = true) : (PyData.str (x ++ y)).canLay0 = true := by
  simp only [PyData.canLay0, PyData.strOk] at hx hy ⊢
  show (x.cps ++ y.cps).all _ = true
  rw [Array.all_append, hx, hy]; rfl
def fAddS : D → D → Option D
  | .str x, .str y => if x.length + y.length ≤ 100000 then some (.str (x ++ y)) else none
  | _, _ => none
abbrev fAddI := fInt (fun _ _ => True) fun i j => .int (i + j)
abbrev fAdd := fOr fAddI fAddS
abbrev fSub := fInt (fun _ _ => True) fun i j => .int (i - j)
abbrev fMul := fInt CMul fun i j => .int (i * j)
abbrev fDiv := fInt CDiv fun i j => .int (i / j)
abbrev fMod := fInt (fun _ j => 0 < j) fun i j => .int (i % j)
abbrev fPow := fInt CPow fun i j => .int (i ^ j.toNat)
variable {a b e : Expr} {ma mb : M} {pos : Pos}
theorem x_add (ha : XB K X a ma) (hb : XB K X b mb) : XE K X (.BinOp a .Add b pos) (m2 fAdd ma mb) := by
  refine x_op (op_add.or op_add_str) (os_or (os_int0 fun _ _ _ => .int _) ?_) ha hb
  intro H x y d e z rx ry hz
  cases d <;> try (simp [fAddS] at hz)
  cases e <;> try (simp [fAddS] at hz)
  obtain ⟨hc, rfl⟩ := hz
  cases rx with
  | str hx =>
    cases ry with
    | str hy => exact ⟨_, .str (lay_append hx hy), fun Q q => ⟨_, _, rfl, rfl, sz_le hc, q⟩⟩
theorem x_sub (ha : XB K X a ma) (hb : XB K X b mb) : XE K X (.BinOp a .Sub b pos) (m2 fSub ma mb) := x_op op_sub (os_int0 fun _ _ _ => .int _) ha hb
theorem x_mul (ha : XB K X a ma) (hb : XB K X b mb) : XE K X (.BinOp a .Mult b pos) (m2 fMul ma mb) := x_op op_mul (os_int fun _ _ _ => .int _) ha hb
theorem x_fdiv (ha : XB K X a ma) (hb : XB K X b mb) : XE K X (.BinOp a .FloorDiv b pos) (m2 fDiv ma mb) := x_op op_fdiv (os_int fun _ _ _ => .int _) ha hb
theorem x_mod (ha : XB K X a ma) (hb : XB K X b mb) : XE K X (.BinOp a .Mod b pos) (m2 fMod ma mb) := x_op op_mod (os_int fun _ _ _ => .int _) ha hb
theorem x_pow (ha : XB K X a ma) (hb : XB K X b mb) : XE K X (.BinOp a .Pow b pos) (m2 fPow ma mb) := x_op op_pow (os_int fun _ _ _ => .int _) ha hb
def fNeg : D → Option D
  | .int i => some (.int (-i))
  | _ => none
theorem x_neg (ha : XB K X a ma) : XE K X (.UnaryOp .USub a pos) (m1 fNeg ma) := by
  refine x_un un_neg ?_ ha
  intro H x d z rx hz
  cases d <;> simp [fNeg] at hz
  subst hz
  cases rx
  exact ⟨_, .int _, fun Q q => ⟨_, rfl, q⟩⟩
/-! ### comparisons -/
def intsOf : List D → Option (List Int)
  | [] => some []
  | .int i :: r => (intsOf r).map (i :: ·)
  | _ => none
theorem intsOf_some : ∀ {ds : List D} {ns : List Int}, intsOf ds = some ns → ds = ns.map .int
  | [], ns, h => by cases h; rfl
  | d :: ds, ns, h => by
    cases d <;> simp [intsOf] at h
    obtain ⟨r, hr, rfl⟩ := h
    rw [intsOf_some hr]; rfl
theorem intsOf_map (ns : List Int) : intsOf (ns.map .int) = some ns := by
  induction ns with
  | nil => rfl
  | cons n ns ih => simp [intsOf, ih]
theorem RA.ints {B : Addr → Prop} {H : Hp} : ∀ {ns : List Int} {vs : List V}, RA K B H vs (ns.map .int) → vs = ns.map V.int
  | [], _, h => by cases h; rfl
  | n :: ns, _, h => by
    cases h with
    | cons h1 h2 => cases h1; rw [RA.ints h2]; rfl
def fLtT : D → D → Option D
  | .tuple xs, .tuple ys => (intsOf xs).bind fun ns => (intsOf ys).map fun ms => .bool (HT.lexLt ns ms)
  | _, _ => none
def fLtS : D → D → Option D
  | .str x, .str y => some (.bool (decide (x.cps.toList < y.cps.toList)))
  | _, _ => none
abbrev fLt := fOr (fInt (fun _ _ => True) fun i j => .bool (decide (i < j))) (fOr fLtT fLtS)
abbrev fLe := fInt (fun _ _ => True) fun i j => .bool (decide (i ≤ j))
abbrev fGt := fInt (fun _ _ => True) fun i j => .bool (decide (j < i))
abbrev fGe := fInt (fun _ _ => True) fun i j => .bool (decide (j ≤ i))
theorem os_lt : OpS K (fun x y H Q => rI0 (fun i j => .bl (decide (i < j))) x y H Q ∨ (rLtT K x y H Q ∨ (∃ i j, x = .str i ∧ y = .str j ∧ Q (.bl (decide (i.cps.toList < j.cps.toList))) H))) fLt := by
  refine os_or (os_int0 fun _ _ _ => .bl _) (os_or ?_ ?_)
  · intro H x y d e z rx ry hz
    unfold fLtT at hz
    split at hz
    case h_2 => cases hz
    obtain ⟨ns, hn, hz⟩ := some_bind hz
    obtain ⟨ms, hm, rfl⟩ := Option.map_eq_some_iff.mp hz
    have en := intsOf_some hn
    have em := intsOf_some hm
    subst en em
    cases rx with
    | tup hx ax =>
      cases ry with
      | tup hy ay =>
        rw [RA.ints ax] at hx
        rw [RA.ints ay] at hy
        exact ⟨_, .bl _, fun Q q => ⟨_, _, ns, ms, rfl, rfl, hx.sqt, hy.sqt, q⟩⟩
  · intro H x y d e z rx ry hz
    unfold fLtS at hz
    split at hz
    case h_2 => cases hz
    cases hz
    cases rx; cases ry
    exact ⟨_, .bl _, fun Q q => ⟨_, _, rfl, rfl, q⟩⟩
theorem or_lt {k : Nat} (hK : X.K = K) (hr : Room k X.A) : OpR X (compareOp .Lt) (fun x y H Q => rI0 (fun i j => .bl (decide (i < j))) x y H Q ∨ (rLtT K x y H Q ∨ (∃ i j, x = .str i ∧ y = .str j ∧ Q (.bl (decide (i.cps.toList < j.cps.toList))) H))) := by
  subst hK
  exact op_lt.or ((op_ltT hr.units0).or op_lt_str)
/-- the plain orders, as values and as tests -/
theorem x_lt {k : Nat} (hK : X.K = K) (hr : Room k X.A) (ha : XB K X a ma) (hb : XB K X b mb) : XE K X (.Compare a [.Lt] [b] pos) (m2 fLt ma mb) := x_cmp (or_lt hK hr) os_lt ha hb (nomark _)
theorem t_lt {k : Nat} (hK : X.K = K) (hr : Room k X.A) (ha : XB K X a ma) (hb : XB K X b mb) : XT K X (.Compare a [.Lt] [b] pos) (mT (m2 fLt ma mb)) := t_cmp (or_lt hK hr) os_lt ha hb (nomark _)
theorem os_le : OpS K (rI0 fun i j => .bl (decide (i ≤ j))) fLe := os_int0 fun _ _ _ => .bl _
theorem os_gt : OpS K (rI0 fun i j => .bl (decide (j < i))) fGt := os_int0 fun _ _ _ => .bl _
theorem os_ge : OpS K (rI0 fun i j => .bl (decide (j ≤ i))) fGe := os_int0 fun _ _ _ => .bl _
theorem x_le (ha : XB K X a ma) (hb : XB K X b mb) : XE K X (.Compare a [.LtE] [b] pos) (m2 fLe ma mb) := x_cmp op_le os_le ha hb (nomark _)
theorem x_gt (ha : XB K X a ma) (hb : XB K X b mb) : XE K X (.Compare a [.Gt] [b] pos) (m2 fGt ma mb) := x_cmp op_gt os_gt ha hb (nomark _)
theorem x_ge (ha : XB K X a ma) (hb : XB K X b mb) : XE K X (.Compare a [.GtE] [b] pos) (m2 fGe ma mb) := x_cmp op_ge os_ge ha hb (nomark _)
theorem t_le (ha : XB K X a ma) (hb : XB K X b mb) : XT K X (.Compare a [.LtE] [b] pos) (mT (m2 fLe ma mb)) := t_cmp op_le os_le ha hb (nomark _)
theorem t_gt (ha : XB K X a ma) (hb : XB K X b mb) : XT K X (.Compare a [.Gt] [b] pos) (mT (m2 fGt ma mb)) := t_cmp op_gt os_gt ha hb (nomark _)
theorem t_ge (ha : XB K X a ma) (hb : XB K X b mb) : XT K X (.Compare a [.GtE] [b] pos) (mT (m2 fGe ma mb)) := t_cmp op_ge os_ge ha hb (nomark _)
/-- ==, != of data -/
def fEq : D → D → Option D := fun d e => if min d.depth e.depth ≤ 64 then some (.bool (PyData.eqv d e)) else none
def fNe : D → D → Option D := fun d e => if min d.depth e.depth ≤ 64 then some (.bool (!PyData.eqv d e)) else none
def rEqR (K : Fg) (n : Bool) : R2 := fun x y H Q => ∃ d e, Dp K H x d ∧ Dp K H y e ∧ d.canLay0 = true ∧ e.canLay0 = true ∧ min d.depth e.depth ≤ 64 ∧ Q (.bl (if n then !PyData.eqv d e else PyData.eqv d e)) H
theorem op_eqR {k : Nat} (hK : X.K = K) (hr : Room k X.A) : OpR X (compareOp .Eq) (rEqR K false) := by
  subst hK
  intro pins s σ H x y v u Q I rx ry h
  obtain ⟨d, e, hd, he, sd, se, hm, q⟩ := h
  obtain ⟨as, r1⟩ := Dp.reads I d x v hd rx
  obtain ⟨bs, r2⟩ := Dp.reads I e y u he ry
  exact SeqAt.compareEq_reads r1 r2 sd se (by have := hr.units; omega) ⟨.bl _, H, I, rfl, q⟩
theorem op_neR {k : Nat} (hK : X.K = K) (hr : Room k X.A) : OpR X (compareOp .NotEq) (rEqR K true) := by
  subst hK
  intro pins s σ H x y v u Q I rx ry h
  obtain ⟨d, e, hd, he, sd, se, hm, q⟩ := h
  obtain ⟨as, r1⟩ := Dp.reads I d x v hd rx
  obtain ⟨bs, r2⟩ := Dp.reads I e y u he ry
  exact SeqAt.compareNe_reads r1 r2 sd se (by have := hr.units; omega) ⟨.bl _, H, I, rfl, q⟩
theorem os_eq : OpS K (rEqR K false) fEq := by
  intro H x y d e z rx ry hz
  obtain ⟨hc, hz⟩ := if_some hz
  cases hz
  exact ⟨_, .bl _, fun Q q => ⟨d, e, R.dp _ _ rx, R.dp _ _ ry, R.lay _ _ rx, R.lay _ _ ry, hc, q⟩⟩
theorem os_ne : OpS K (rEqR K true) fNe := by
  intro H x y d e z rx ry hz
  obtain ⟨hc, hz⟩ := if_some hz
  cases hz
  exact ⟨_, .bl _, fun Q q => ⟨d, e, R.dp _ _ rx, R.dp _ _ ry, R.lay _ _ rx, R.lay _ _ ry, hc, q⟩⟩
theorem x_eq {k : Nat} (hK : X.K = K) (hr : Room k X.A) (ha : XB K X a ma) (hb : XB K X b mb) : XE K X (.Compare a [.Eq] [b] pos) (m2 fEq ma mb) := x_cmp (op_eqR hK hr) os_eq ha hb (nomark _)
theorem t_eq {k : Nat} (hK : X.K = K) (hr : Room k X.A) (ha : XB K X a ma) (hb : XB K X b mb) : XT K X (.Compare a [.Eq] [b] pos) (mT (m2 fEq ma mb)) := t_cmp (op_eqR hK hr) os_eq ha hb (nomark _)
theorem x_ne {k : Nat} (hK : X.K = K) (hr : Room k X.A) (ha : XB K X a ma) (hb : XB K X b mb) : XE K X (.Compare a [.NotEq] [b] pos) (m2 fNe ma mb) := x_cmp (op_neR hK hr) os_ne ha hb (nomark _)
theorem t_ne {k : Nat} (hK : X.K = K) (hr : Room k X.A) (ha : XB K X a ma) (hb : XB K X b mb) : XT K X (.Compare a [.NotEq] [b] pos) (mT (m2 fNe ma mb)) := t_cmp (op_neR hK hr) os_ne ha hb (nomark _)
/-- is None, is not None -/
def isNone : D → Bool
  | .none => true
  | _ => false
def fIsN : D → D → Option D := fun d e => if isNone e = true then some (.bool (isNone d)) else none
def fNotN : D → D → Option D := fun d e => if isNone e = true then some (.bool (!isNone d)) else none
theorem isN_R {B : Addr → Prop} {H : Hp} {v : V} {d : D} (h : R K B H v d) : decide (v = .non) = isNone d := by cases h <;> simp [isNone]
def rIsNo : R2 := fun x y H Q => y = .non ∧ Q (.bl (decide (x = .non))) H
def rNotNo : R2 := fun x y H Q => y = .non ∧ Q (.bl (!decide (x = .non))) H
theorem os_isN : OpS K rIsNo fIsN := by
  intro H x y d e z rx ry hz
  obtain ⟨hc, hz⟩ := if_some hz
  cases hz
  have e1 := isN_R ry
  rw [hc] at e1
  have e2 := of_decide_eq_true e1
  exact ⟨.bl (decide (x = .non)), by rw [isN_R rx]; exact .bl _, fun Q q => ⟨e2, q⟩⟩
theorem os_notN : OpS K rNotNo fNotN := by
  intro H x y d e z rx ry hz
  obtain ⟨hc, hz⟩ := if_some hz
  cases hz
  have e1 := isN_R ry
  rw [hc] at e1
  have e2 := of_decide_eq_true e1
  exact ⟨.bl (!decide (x = .non)), by rw [isN_R rx]; exact .bl _, fun Q q => ⟨e2, q⟩⟩
theorem x_isN (ha : XB K X a ma) (hb : XB K X b mb) : XE K X (.Compare a [.Is] [b] pos) (m2 fIsN ma mb) := x_cmp op_isN os_isN ha hb (nomark _)
theorem t_isN (ha : XB K X a ma) (hb : XB K X b mb) : XT K X (.Compare a [.Is] [b] pos) (mT (m2 fIsN ma mb)) := t_cmp op_isN os_isN ha hb (nomark _)
theorem x_notN (ha : XB K X a ma) (hb : XB K X b mb) : XE K X (.Compare a [.IsNot] [b] pos) (m2 fNotN ma mb) := x_cmp op_notN os_notN ha hb (nomark _)
theorem t_notN (ha : XB K X a ma) (hb : XB K X b mb) : XT K X (.Compare a [.IsNot] [b] pos) (mT (m2 fNotN ma mb)) := t_cmp op_notN os_notN ha hb (nomark _)
/-- in, not in, of a list or a tuple -/
def fIn (n : Bool) : D → D → Option D := fun d e =>
  match e with
  | .list ds => if min (PyData.depthAll ds) d.depth ≤ 60 then some (.bool (if n then !ds.any fun z => PyData.eqv z d else ds.any fun z => PyData.eqv z d)) else none
  | .tuple ds => if min (PyData.depthAll ds) d.depth ≤ 60 then some (.bool (if n then !ds.any fun z => PyData.eqv z d else ds.any fun z => PyData.eqv z d)) else none
  | _ => none
def rInR (K : Fg) (n : Bool) : R2 := fun x y H Q => ∃ d ds, Dp K H x d ∧ (Dp K H y (.list ds) ∨ Dp K H y (.tuple ds)) ∧ d.canLay0 = true ∧ PyData.canLayAll0 ds = true ∧ min (PyData.depthAll ds) d.depth ≤ 60 ∧ Q (.bl (if n then !ds.any fun z => PyData.eqv z d else ds.any fun z => PyData.eqv z d)) H
theorem op_inR {k : Nat} (hK : X.K = K) (hr : Room k X.A) : OpR X (compareOp .In) (rInR K false) := by
  subst hK
  intro pins s σ H x y v u Q I rx ry h
  obtain ⟨d, ds, hd, he, sd, se, hm, q⟩ := h
  obtain ⟨as, r1⟩ := Dp.reads I d x v hd rx
  have hu : X.A.units + 1 + min (PyData.depthAll ds) d.depth < cLine := by have := hr.units; omega
  rcases he with he | he
  · obtain ⟨bs, r2⟩ := Dp.reads I _ y u he ry
    exact SeqAt.in_list_reads r2 r1 se sd hu ⟨.bl _, H, I, rfl, q⟩
  · obtain ⟨bs, r2⟩ := Dp.reads I _ y u he ry
    exact SeqAt.in_tuple_reads r2 r1 se sd hu ⟨.bl _, H, I, rfl, q⟩
theorem op_notInR {k : Nat} (hK : X.K = K) (hr : Room k X.A) : OpR X (compareOp .NotIn) (rInR K true) := by
  subst hK
  intro pins s σ H x y v u Q I rx ry h
  obtain ⟨d, ds, hd, he, sd, se, hm, q⟩ := h
  obtain ⟨as, r1⟩ := Dp.reads I d x v hd rx
  have hu : X.A.units + 1 + min (PyData.depthAll ds) d.depth < cLine := by have := hr.units; omega
  rcases he with he | he
  · obtain ⟨bs, r2⟩ := Dp.reads I _ y u he ry
    exact SeqAt.notIn_list_reads r2 r1 se sd hu ⟨.bl _, H, I, rfl, q⟩
  · obtain ⟨bs, r2⟩ := Dp.reads I _ y u he ry
    exact SeqAt.notIn_tuple_reads r2 r1 se sd hu ⟨.bl _, H, I, rfl, q⟩
theorem os_in {n : Bool} : OpS K (rInR K n) (fIn n) := by
  intro H x y d e z rx ry hz
  cases e with
  | list ds =>
    obtain ⟨hc, hz⟩ := if_some hz
    cases hz
    have := R.lay _ _ ry
    simp only [PyData.canLay0] at this
    exact ⟨_, .bl _, fun Q q => ⟨d, ds, R.dp _ _ rx, .inl (R.dp _ _ ry), R.lay _ _ rx, this, hc, q⟩⟩
  | tuple ds =>
    obtain ⟨hc, hz⟩ := if_some hz
    cases hz
    have := R.lay _ _ ry
    simp only [PyData.canLay0] at this
    exact ⟨_, .bl _, fun Q q => ⟨d, ds, R.dp _ _ rx, .inr (R.dp _ _ ry), R.lay _ _ rx, this, hc, q⟩⟩
  | _ => cases hz
theorem x_in {k : Nat} (hK : X.K = K) (hr : Room k X.A) (ha : XB K X a ma) (hb : XB K X b mb) (hm : behindInMarks .In b = false := by rfl) : XE K X (.Compare a [.In] [b] pos) (m2 (fIn false) ma mb) := x_cmp (op_inR hK hr) os_in ha hb hm
theorem t_in {k : Nat} (hK : X.K = K) (hr : Room k X.A) (ha : XB K X a ma) (hb : XB K X b mb) (hm : behindInMarks .In b = false := by rfl) : XT K X (.Compare a [.In] [b] pos) (mT (m2 (fIn false) ma mb)) := t_cmp (op_inR hK hr) os_in ha hb hm
theorem x_notIn {k : Nat} (hK : X.K = K) (hr : Room k X.A) (ha : XB K X a ma) (hb : XB K X b mb) (hm : behindInMarks .NotIn b = false := by rfl) : XE K X (.Compare a [.NotIn] [b] pos) (m2 (fIn true) ma mb) := x_cmp (op_notInR hK hr) os_in ha hb hm
theorem t_notIn {k : Nat} (hK : X.K = K) (hr : Room k X.A) (ha : XB K X a ma) (hb : XB K X b mb) (hm : behindInMarks .NotIn b = false := by rfl) : XT K X (.Compare a [.NotIn] [b] pos) (mT (m2 (fIn true) ma mb)) := t_cmp (op_notInR hK hr) os_in ha hb hm
end
end DD

namespace DD
open PySem L2
/-! ### items and slices -/
def fIx : D → D → Option D
  | .list ds, .int i => atI ds i
  | .tuple ds, .int i => atI ds i
  | .str z, .int i => if z.length ≤ 100000 then (atI z.cps.toList i).map fun c => .str ⟨#[c]⟩ else none
  | _, _ => none
section
variable {K : Fg} {X : Cx} {B : Addr → Prop} {H : Hp}
theorem RA.atI {ds : List D} {vs : List V} {i : Int} {d : D} (h : RA K B H vs ds) (e : L2.atI ds i = some d) : ∃ v, L2.atI vs i = some v ∧ R K B H v d := by
  unfold L2.atI at e ⊢
  rw [h.length]
  obtain ⟨j, hj, e⟩ := some_bind e
  obtain ⟨v, hv, r⟩ := h.get e
  exact ⟨v, by rw [hj]; exact hv, r⟩
/-- what a borrowed list or tuple holds is clean -/
theorem RB.items {H0 : Hp} {G : Addr → Prop} {σ : St} {s : S} {H' : Hp} {v : V} {ds : List D} (r : RS K H0 G σ H s) (e : Ex H H') (h : RB K G σ s H' v (.list ds)) : ∃ a xs, v = .ref a ∧ SqL K H' a xs ∧ RA K (Cl G σ s) H' xs ds := by
  rcases h with h | ⟨i, es, h1, h2, h3⟩
  · cases h with
    | lst hr ha => exact ⟨_, _, rfl, hr.sql, ha⟩
  · cases h3
    obtain ⟨a, xs, e1, e2, _, _, e3⟩ := (r.mono e).ow i _ h1
    rw [h2] at e1; cases e1
    exact ⟨a, xs, rfl, .inl (.inl e2), e3⟩
theorem RB.itemsT {G : Addr → Prop} {σ : St} {s : S} {H' : Hp} {v : V} {ds : List D} (h : RB K G σ s H' v (.tuple ds)) : ∃ a xs, v = .ref a ∧ TupX K H' a xs ∧ RA K (Cl G σ s) H' xs ds := by
  rcases h with h | ⟨i, es, h1, h2, h3⟩
  · cases h with
    | tup hr ha => exact ⟨_, _, rfl, hr, ha⟩
  · cases h3
theorem RB.plain {G : Addr → Prop} {σ : St} {s : S} {H' : Hp} {v : V} {d : D} (h : RB K G σ s H' v d) (nl : ∀ ds, d ≠ .list ds) : R K (Cl G σ s) H' v d := by
  rcases h with h | ⟨i, es, h1, h2, h3⟩
  · exact h
  · exact (nl _ h3).elim
theorem Ex.sql {a : Addr} {xs : List V} {H' : Hp} (e : Ex H H') (h : SqL K H a xs) : SqL K H' a xs := h.elim (fun q => .inl (e.rd q)) .inr
theorem atI_mem {α : Type} {xs : List α} {i : Int} {c : α} (h : L2.atI xs i = some c) : c ∈ xs := by
  unfold L2.atI at h
  obtain ⟨j, hj, e⟩ := some_bind h
  exact List.mem_of_getElem? e
theorem lay_code {z : Str} {c : Nat} (h : (PyData.str z).canLay0 = true) (hc : c ∈ z.cps.toList) : (PyData.str ⟨#[c]⟩).canLay0 = true := by
  simp only [PyData.canLay0, PyData.strOk, Array.all_eq_true'] at h ⊢
  intro x hx
  have : x = c := by simpa using hx
  subst this
  exact h x (by simpa using hc)
variable {a b e : Expr} {ma mb : M} {pos : Pos}
theorem x_ix (hK : X.K = K) (ha : XB K X a ma) (hb : XB K X b mb) (hs : PlainIx b := by exact fun _ _ => rfl) : XE K X (.Subscript a b pos) (m2 fIx ma mb) := by
  subst hK
  refine pe_imp (pe_ix ix_seq ha hb hs) fun σ H Q ⟨H0, G, s, d, rs, e, q⟩ => ?_
  obtain ⟨x, ex, e⟩ := some_bind e
  obtain ⟨y, ey, ez⟩ := some_bind e
  refine ⟨H0, G, s, x, rs, ex, fun v H1 e1 rv => ⟨H0, G, s, y, rs.mono e1, ey, fun u H2 e2 ru => ?_⟩⟩
  unfold fIx at ez
  split at ez
  · rename_i ds i
    obtain ⟨p, xs, rfl, hr, ra⟩ := RB.items rs e1 rv
    cases ru.plain (fun _ h => nomatch h)
    obtain ⟨w, hw, rw'⟩ := ra.atI ez
    exact .inl ⟨p, xs, i, w, rfl, rfl, e2.sql hr, hw, q w H2 (e1.trans e2) (rw'.ex e2)⟩
  · rename_i ds i
    obtain ⟨p, xs, rfl, hr, ra⟩ := RB.itemsT rv
    cases ru.plain (fun _ h => nomatch h)
    obtain ⟨w, hw, rw'⟩ := ra.atI ez
    exact .inr (.inl ⟨p, xs, i, w, rfl, rfl, (e2.sqt hr).sqt, hw, q w H2 (e1.trans e2) (rw'.ex e2)⟩)
  · rename_i z i
    obtain ⟨hl, ez⟩ := if_some ez
    obtain ⟨c, hc, rfl⟩ := Option.map_eq_some_iff.mp ez
    cases ru.plain (fun _ h => nomatch h)
    have rz := rv.plain (fun _ h => nomatch h)
    cases rz with
    | str lz => exact .inr (.inr ⟨z, i, c, rfl, rfl, sz_le hl, hc, q _ H2 (e1.trans e2) (.str (lay_code lz (atI_mem hc)))⟩)
  · cases ez

/-! ### slices -/
abbrev MO := S → Option (Option Int)
def tO (K : Fg) (m : MO) : TO := fun σ H Q => ∃ H0 G s o, RS K H0 G σ H s ∧ m s = some o ∧ ∀ H', Ex H H' → Q o H'
abbrev XO (K : Fg) (X : Cx) (e : Option Expr) (m : MO) := PO X e (tO K m)
def oNone : MO := fun _ => some none
def intOf : D → Option Int
  | .int i => some i
  | _ => none
theorem intOf_some {d : D} {i : Int} (h : intOf d = some i) : d = .int i := by cases d <;> simp [intOf] at h; rw [h]
def oSome (m : M) : MO := fun s => (m s).bind fun d => (intOf d).map some
theorem o_none : XO K X none oNone := po_imp po_none fun σ H Q ⟨H0, G, s, o, r, e, q⟩ => by cases e; exact q H (Ex.refl _)
theorem o_some (h : XB K X e ma) : XO K X (some e) (oSome ma) := po_imp (po_some h) fun σ H Q ⟨H0, G, s, o, r, e, q⟩ => by
  obtain ⟨d, ed, e⟩ := some_bind e
  obtain ⟨i, hi, rfl⟩ := Option.map_eq_some_iff.mp e
  have := intOf_some hi
  subst this
  refine ⟨H0, G, s, _, r, ed, fun v H1 e1 rv => ?_⟩
  cases rv.plain (fun _ h => nomatch h)
  exact ⟨i, rfl, q H1 e1⟩
def cutD {α : Type} (xs : List α) (lo hi : Option Int) : List α := (xs.drop (HT.sIx xs.length 0 lo)).take (HT.sIx xs.length xs.length hi - HT.sIx xs.length 0 lo)
theorem RA.cut {ds : List D} {vs : List V} (h : RA K B H vs ds) (lo hi : Option Int) : RA K B H (cutV vs lo hi) (cutD ds lo hi) := by
  unfold cutV cutD
  rw [h.length]
  exact (h.drop _).take _
variable {lo hi : Option Expr} {ml mh : MO} {p2 : Pos}
def fList : D → Option (List D)
  | .list ds => some ds
  | _ => none
theorem fList_some {d : D} {ds : List D} (h : fList d = some ds) : d = .list ds := by cases d <;> simp [fList] at h; rw [h]
def fTup : D → Option (List D)
  | .tuple ds => some ds
  | _ => none
theorem fTup_some {d : D} {ds : List D} (h : fTup d = some ds) : d = .tuple ds := by cases d <;> simp [fTup] at h; rw [h]
def mCutL (m : M) (lo hi : MO) : ML := fun s => (m s).bind fun d => (fList d).bind fun ds => (lo s).bind fun l => (hi s).map fun u => cutD ds l u
def mCutT (m : M) (lo hi : MO) : M := fun s => (m s).bind fun d => (fTup d).bind fun ds => (lo s).bind fun l => (hi s).map fun u => .tuple (cutD ds l u)
theorem l_cut (hK : X.K = K) (ha : XB K X a ma) (hl : XO K X lo ml) (hh : XO K X hi mh) : XL K X (.Subscript a (.Slice lo hi none p2) pos) (mCutL ma ml mh) := by
  subst hK
  refine pe_imp (pe_slice sl_list ha hl hh) fun σ H Q ⟨H0, G, s, d, rs, e, q⟩ => ?_
  obtain ⟨x, ex, e⟩ := some_bind e
  obtain ⟨ds, ed, e⟩ := some_bind e
  obtain ⟨l, el, e⟩ := some_bind e
  obtain ⟨u, eu, rfl⟩ := Option.map_eq_some_iff.mp e
  have := fList_some ed
  subst this
  refine ⟨H0, G, s, _, rs, ex, fun v H1 e1 rv => ⟨H0, G, s, l, rs.mono e1, el, fun H2 e2 => ⟨H0, G, s, u, rs.mono (e1.trans e2), eu, fun H3 e3 => ?_⟩⟩⟩
  obtain ⟨p, xs, rfl, hr, ra⟩ := RB.items rs e1 rv
  have e23 := e2.trans e3
  refine ⟨p, xs, rfl, e23.sql hr, fun p' hp => ?_⟩
  have e13 := e1.trans e23
  exact q p' _ _ (e13.back hp) (e13.trans (Ex.new hp)) upd_same ((((ra.ex e23).cut l u).free hp).ex (Ex.new hp))
/-- t[lo:hi] of a tuple: the whole of it is t itself -/
def rCutF (K : Fg) : V → Option Int → Option Int → Hp → VK → Prop := fun x lo hi H Q => ∃ a xs, x = .ref a ∧ SqT K H a xs ∧
  (HT.sIx xs.length 0 lo = 0 ∧ HT.sIx xs.length xs.length hi = xs.length → Q (.ref a) H) ∧ (¬ (HT.sIx xs.length 0 lo = 0 ∧ HT.sIx xs.length xs.length hi = xs.length) → ∀ p o, H p = none → o.cls = .type "tuple" → o.dict = none → Q (.ref p) (upd H p (.frz o (.tup (cutV xs lo hi)))))
theorem sl_cutF : SlR X (rCutF X.K) := fun pins s σ H x v vl vu lo hi sl Q I rx hs pl pu h => by
  obtain ⟨a, xs, rfl, hx, q1, q2⟩ := h
  cases rx
  obtain ⟨its, r, ht, hz⟩ := I.tuple hx
  have n1 : its.toArray.size = xs.length := by rw [List.size_toArray, r.length]
  refine ⟨"tuple", _, PyProof.Rows.slot_tuple_getitem.lookup, ht.typeIs, ?_⟩
  by_cases hw : HT.sIx xs.length 0 lo = 0 ∧ HT.sIx xs.length xs.length hi = xs.length
  · exact L2.getItem_tuple_whole ht hs pl pu (by rw [n1]; exact hw) ⟨.ref a, H, I, rfl, q1 hw⟩
  · refine HT.getItem_tuple_cut ht hs pl pu (by rw [n1]; exact hw) ?_ (by rw [n1]; exact hz)
    rw [n1]
    have rr : Vals (cutV xs lo hi) ((its.toArray.toList.drop (HT.sIx xs.length 0 lo)).take (HT.sIx xs.length xs.length hi - HT.sIx xs.length 0 lo)) := (r.drop _).take _
    exact ⟨.ref _, _, tup_laid (t' := s.toks) I rr (Nat.le_trans (cutV_length xs lo hi) hz), rfl, q2 hw _ _ I.hok.free0 rfl rfl⟩
theorem x_cutT (hK : X.K = K) (ha : XB K X a ma) (hl : XO K X lo ml) (hh : XO K X hi mh) : XE K X (.Subscript a (.Slice lo hi none p2) pos) (mCutT ma ml mh) := by
  subst hK
  refine pe_imp (pe_slice sl_cutF ha hl hh) fun σ H Q ⟨H0, G, s, d, rs, e, q⟩ => ?_
  obtain ⟨x, ex, e⟩ := some_bind e
  obtain ⟨ds, ed, e⟩ := some_bind e
  obtain ⟨l, el, e⟩ := some_bind e
  obtain ⟨u, eu, rfl⟩ := Option.map_eq_some_iff.mp e
  have := fTup_some ed
  subst this
  refine ⟨H0, G, s, _, rs, ex, fun v H1 e1 rv => ⟨H0, G, s, l, rs.mono e1, el, fun H2 e2 => ⟨H0, G, s, u, rs.mono (e1.trans e2), eu, fun H3 e3 => ?_⟩⟩⟩
  obtain ⟨p, xs, rfl, hr, ra⟩ := RB.itemsT rv
  have e23 := e2.trans e3
  have e13 := e1.trans e23
  refine ⟨p, xs, rfl, (e23.sqt hr).sqt, fun ⟨w1, w2⟩ => ?_, fun _ p' o hp hc hd => ?_⟩
  · have hw : cutD ds l u = ds := by
      unfold cutD
      rw [ra.length] at w1 w2
      rw [w1, w2]
      simp
    rw [hw] at q
    exact q _ H3 e13 (.tup (e23.sqt hr) (ra.ex e23))
  · exact q _ _ (e13.trans (Ex.new hp)) (.tup (.inl ⟨o, upd_same, hc, hd⟩) (((ra.ex e23).cut l u).ex (Ex.new hp)))
/-- xs[::-1] of a list -/
def mRevL (m : M) : ML := fun s => (m s).bind fun d => (fList d).map List.reverse
theorem l_rev (hK : X.K = K) {k : Nat} {p1 p3 : Pos} (ha : XB K X a ma) : XL K X (.Subscript a (.Slice none none (some (.UnaryOp .USub (.Constant (.int 1) k p1) p2)) p3) pos) (mRevL ma) := by
  subst hK
  refine pe_imp (pe_revL ha) fun σ H Q ⟨H0, G, s, d, rs, e, q⟩ => ?_
  obtain ⟨x, ex, e⟩ := some_bind e
  obtain ⟨ds, ed, rfl⟩ := Option.map_eq_some_iff.mp e
  have := fList_some ed
  subst this
  refine ⟨H0, G, s, _, rs, ex, fun v H1 e1 rv => ?_⟩
  obtain ⟨p, xs, rfl, hr, ra⟩ := RB.items rs e1 rv
  exact ⟨p, xs, rfl, hr, fun p' hp => q p' _ _ (e1.back hp) (e1.trans (Ex.new hp)) upd_same ((ra.reverse.free hp).ex (Ex.new hp))⟩

/-! ### list + list, list * int -/
def rCatR (K : Fg) : R2 := fun x y H Q => ∃ l b xs zs, x = .ref l ∧ y = .ref b ∧ SqL K H l xs ∧ SqL K H b zs ∧ xs.length + zs.length ≤ sizeLine ∧ ∀ p, H p = none → Q (.ref p) (upd H p (.lst (xs ++ zs)))
theorem op_catR : OpR X (binaryOp .Add) (rCatR X.K) := by
  intro pins s σ H x y v u Q I rx ry h
  obtain ⟨l, b, xs, zs, rfl, rfl, hH, hB, hz, q⟩ := h
  cases rx
  cases ry
  obtain ⟨its, r, pl, _⟩ := I.list hH
  obtain ⟨its2, r2, pl2, _⟩ := I.list hB
  obtain ⟨⟨c1, d1, t1, s1⟩, g1, hc1, n1, hd1⟩ := pl.isList
  obtain ⟨⟨c2, d2, t2, s2⟩, g2, hc2, n2, hd2⟩ := pl2.isList
  simp only at hc1 hd1 hc2 hd2
  subst hc1 hd1 hc2 hd2
  have l1 := r.length
  have l2 := r2.length
  have ea : its.toArray ++ its2.toArray = (its ++ its2).toArray := by simp
  refine PySem.concat_meets ⟨_, g1, rfl⟩ ⟨_, g2, rfl⟩ PySem.noFill_list_add PySem.seq_list_add PySem.F.slot_list_add PySem.F.entry_list_add (PySem.F.args_list_add_2 _ _)
    (PyProof.Rows.list_addW l b its.toArray its2.toArray n1 n2 d1 d2 s1 s2 (by rw [List.size_toArray, List.size_toArray]; omega)) ⟨g1, g2, ?_⟩
  rw [ea]
  exact ⟨.ref _, _, I.lnew (t' := s.toks) (r.append r2) (by rw [List.length_append]; omega), rfl, q _ I.fresh⟩
def mCat (a b : M) : ML := fun s => (a s).bind fun x => (fList x).bind fun xs => (b s).bind fun y => (fList y).bind fun ys => if xs.length + ys.length ≤ 100000 then some (xs ++ ys) else none
theorem l_cat (hK : X.K = K) (ha : XB K X a ma) (hb : XB K X b mb) : XL K X (.BinOp a .Add b pos) (mCat ma mb) := by
  subst hK
  refine pe_imp (pe_op op_catR ha hb) fun σ H Q ⟨H0, G, s, d, rs, e, q⟩ => ?_
  obtain ⟨x, ex, e⟩ := some_bind e
  obtain ⟨xs, fx, e⟩ := some_bind e
  obtain ⟨y, ey, e⟩ := some_bind e
  obtain ⟨ys, fy, e⟩ := some_bind e
  obtain ⟨hl, e⟩ := if_some e
  cases e
  have := fList_some fx
  subst this
  have := fList_some fy
  subst this
  refine ⟨H0, G, s, _, rs, ex, fun v H1 e1 rv => ⟨H0, G, s, _, rs.mono e1, ey, fun u H2 e2 ru => ?_⟩⟩
  obtain ⟨p, vs, rfl, hr, ra⟩ := RB.items rs e1 rv
  obtain ⟨p', us, rfl, hr', ra'⟩ := RB.items (rs.mono e1) e2 ru
  have e12 := e1.trans e2
  refine ⟨p, p', vs, us, rfl, rfl, e2.sql hr, hr', sz_le (by rw [ra.length, ra'.length]; exact hl), fun o ho => ?_⟩
  exact q o _ _ (e12.back ho) (e12.trans (Ex.new ho)) upd_same ((((ra.ex e2).append ra').free ho).ex (Ex.new ho))
/-- a list that is written or made here, times an int -/
def mRep (a : ML) (b : M) : ML := fun s => (a s).bind fun xs => (b s).bind fun y => (intOf y).bind fun k => if k ≤ 100000 ∧ xs.length * k.toNat ≤ 100000 ∧ -100000 ≤ k then some (List.replicate k.toNat xs).flatten else none
theorem RA.rep {ds : List D} {vs : List V} (h : RA K B H vs ds) : ∀ n : Nat, RA K B H (List.replicate n vs).flatten (List.replicate n ds).flatten
  | 0 => .nil
  | n + 1 => by
    rw [List.replicate_succ, List.replicate_succ, List.flatten_cons, List.flatten_cons]
    exact h.append (RA.rep h n)
theorem l_rep {la : ML} (ha : XL K X a la) (hb : XB K X b mb) : XL K X (.BinOp a .Mult b pos) (mRep la mb) := by
  refine pe_imp (pe_op op_rep ha hb) fun σ H Q ⟨H0, G, s, d, rs, e, q⟩ => ?_
  obtain ⟨xs, ex, e⟩ := some_bind e
  obtain ⟨y, ey, e⟩ := some_bind e
  obtain ⟨k, fk, e⟩ := some_bind e
  obtain ⟨⟨h1, h2, h3⟩, e⟩ := if_some e
  cases e
  have := intOf_some fk
  subst this
  refine ⟨H0, G, s, _, rs, ex, fun p vs H1 hp e1 hr ra => ⟨H0, G, s, _, rs.mono e1, ey, fun u H2 e2 ru => ?_⟩⟩
  cases ru.plain (fun _ h => nomatch h)
  have e12 := e1.trans e2
  refine ⟨p, k, vs, rfl, rfl, e2 _ _ hr, by omega, by omega, sz_le (by rw [ra.length]; exact h2), fun o ho => ?_⟩
  exact q o _ _ (e12.back ho) (e12.trans (Ex.new ho)) upd_same (((((ra.ex e2).wider (fun a z => z.1)).rep _).free ho).ex (Ex.new ho))
end
end DD

namespace DD
open PySem L2
/-! ### what a statement leaves -/
inductive Out where
  | nx (s : S)
  | bk (s : S)
  | ct (s : S)
  | rt (d : D)
  | rtl (ds : List D)
  | ex (c : Str) (fs : List D)
  | no
/-- what the def does not hold itself stands, and stays so -/
def Tr (σ : St) (s : S) (H : Hp) (σ' : St) (s' : S) (H' : Hp) : Prop := ∀ a o, H a = some o → ¬ Own σ s a → H' a = some o ∧ ¬ Own σ' s' a
theorem Tr.refl (σ : St) (s : S) (H : Hp) : Tr σ s H σ s H := fun a o h n => ⟨h, n⟩
theorem Tr.trans {σ σ1 σ2 : St} {s s1 s2 : S} {H H1 H2 : Hp} (a : Tr σ s H σ1 s1 H1) (b : Tr σ1 s1 H1 σ2 s2 H2) : Tr σ s H σ2 s2 H2 := fun p o h n => b p o (a p o h n).1 (a p o h n).2
theorem Tr.ex {σ σ' : St} {s s' : S} {H H1 H' : Hp} (e : Ex H H1) (b : Tr σ s H1 σ' s' H') : Tr σ s H σ' s' H' := fun p o h n => b p o (e p o h) n
theorem Tr.grow {σ : St} {s : S} {H H1 : Hp} (e : Ex H H1) : Tr σ s H σ s H1 := fun p o h n => ⟨e p o h, n⟩
/-- how an exception lies: its class, its fields in their order -/
abbrev XC := Str → List D → Value → Option Addr → Hp → Prop
def Post (K : Fg) (H0 : Hp) (G : Addr → Prop) (C : XC) (E : XK) (σ : St) (s : S) (H : Hp) (Dn : Ends) : Out → Prop
  | .nx s' => ∀ σ' H', RS K H0 G σ' H' s' → Tr σ s H σ' s' H' → Dn.nx σ' H'
  | .bk s' => ∀ σ' H', RS K H0 G σ' H' s' → Tr σ s H σ' s' H' → Dn.bk σ' H'
  | .ct s' => ∀ σ' H', RS K H0 G σ' H' s' → Tr σ s H σ' s' H' → Dn.ct σ' H'
  | .rt d => ∀ v H', Ex H0 H' → R K G H' v d → Dn.rt v H'
  | .rtl ds => ∀ p xs H', H0 p = none → Ex H0 H' → H' p = some (.lst xs) → RA K (fun a => G a ∧ a ≠ p) H' xs ds → Dn.rt (.ref p) H'
  | .ex c fs => ∀ cls d H', Ex H0 H' → C c fs cls d H' → E cls d H'
  | .no => False
theorem Post.from {K : Fg} {H0 : Hp} {G : Addr → Prop} {C : XC} {E : XK} {σ σ1 : St} {s s1 : S} {H H1 : Hp} {Dn : Ends} {o : Out} (t : Tr σ s H σ1 s1 H1) (h : Post K H0 G C E σ s H Dn o) : Post K H0 G C E σ1 s1 H1 Dn o := by
  cases o with
  | nx s' => exact fun σ' H' r q => h σ' H' r (t.trans q)
  | bk s' => exact fun σ' H' r q => h σ' H' r (t.trans q)
  | ct s' => exact fun σ' H' r q => h σ' H' r (t.trans q)
  | rt d => exact h
  | rtl ds => exact h
  | ex c fs => exact h
  | no => exact h
abbrev MS := S → Out
def sD (K : Fg) (C : XC) (E : XK) (m : MS) : TS := fun Dn σ H => ∃ H0 G s, RS K H0 G σ H s ∧ Post K H0 G C E σ s H Dn (m s)
abbrev XS (K : Fg) (C : XC) (E : XK) (X : Cx) (st : Stmt) (m : MS) := PS X st (sD K C E m)
abbrev XSs (K : Fg) (C : XC) (E : XK) (X : Cx) (st : List Stmt) (m : MS) := PSs X st (sD K C E m)
section
variable {K : Fg} {X : Cx} {C : XC} {E : XK} {H0 H H' : Hp} {G : Addr → Prop} {σ : St} {s : S}
def mSeq (a b : MS) : MS := fun s => match a s with
  | .nx s' => b s'
  | o => o
def mNext : MS := .nx
variable {st : Stmt} {sts : List Stmt} {ma mb : MS}
theorem ss_nil : XSs K C E X [] mNext := pss_imp pss_nil fun D σ H ⟨H0, G, s, r, q⟩ => q σ H r (Tr.refl _ _ _)
theorem ss_cons (ha : XS K C E X st ma) (hb : XSs K C E X sts mb) : XSs K C E X (st :: sts) (mSeq ma mb) := pss_imp (pss_cons ha hb) fun D σ H ⟨H0, G, s, r, q⟩ => by
  refine ⟨H0, G, s, r, ?_⟩
  unfold mSeq at q
  cases hm : ma s with
  | nx s1 =>
    rw [hm] at q
    exact fun σ1 H1 r1 t => ⟨H0, G, s1, r1, q.from t⟩
  | bk s1 => rw [hm] at q; exact q
  | ct s1 => rw [hm] at q; exact q
  | rt d => rw [hm] at q; exact q
  | rtl ds => rw [hm] at q; exact q
  | ex c fs => rw [hm] at q; exact q
  | no => rw [hm] at q; exact q
theorem ss_one (ha : XS K C E X st ma) : XSs K C E X [st] ma := pss_imp (pss_one ha) fun _ _ _ h => h
variable {e : Expr} {m : M} {ml : ML} {c : Expr} {mc : MB} {pos : Pos}
def mPass : MS := .nx
def mBrk : MS := .bk
def mCt : MS := .ct
theorem s_pass : XS K C E X (.Pass pos) mPass := ps_imp ps_pass fun D σ H ⟨H0, G, s, r, q⟩ => q σ H r (Tr.refl _ _ _)
theorem s_break : XS K C E X (.Break pos) mBrk := ps_imp ps_break fun D σ H ⟨H0, G, s, r, q⟩ => q σ H r (Tr.refl _ _ _)
theorem s_continue : XS K C E X (.Continue pos) mCt := ps_imp ps_continue fun D σ H ⟨H0, G, s, r, q⟩ => q σ H r (Tr.refl _ _ _)
def mIfS (c : MB) (a b : MS) : MS := fun s => match c s with
  | some true => a s
  | some false => b s
  | none => .no
theorem s_if {xs ys : List Stmt} (hc : XT K X c mc) (ha : XSs K C E X xs ma) (hb : XSs K C E X ys mb) : XS K C E X (.If c xs ys pos) (mIfS mc ma mb) := ps_imp (ps_if hc ha hb) fun D σ H ⟨H0, G, s, r, q⟩ => by
  unfold mIfS at q
  cases hm : mc s with
  | none => rw [hm] at q; exact q.elim
  | some b =>
    refine ⟨H0, G, s, b, r, hm, fun H1 e1 => ?_⟩
    rw [hm] at q
    cases b with
    | true => exact iteT ⟨H0, G, s, r.mono e1, q.from (Tr.grow e1)⟩
    | false => exact iteF ⟨H0, G, s, r.mono e1, q.from (Tr.grow e1)⟩
/-- a slot's list is shared from here on -/
def shareS (i : Nat) (s : S) : S := match s[i]? with
  | some (some (.ow ds)) => s.set i (some (.sh (.list ds)))
  | _ => s
theorem RS.shared (r : RS K H0 G σ H s) (i : Nat) : RS K H0 G σ H (shareS i s) ∧ Tr σ s H σ (shareS i s) H := by
  unfold shareS
  split
  · rename_i ds hi
    refine ⟨r.share hi, fun a o h n => ⟨h, fun ⟨j, es, h1, h2⟩ => n ?_⟩⟩
    rcases get_set h1 with ⟨_, e, _⟩ | ⟨_, h1⟩
    · cases e
    · exact ⟨j, es, h1, h2⟩
  · exact ⟨r, Tr.refl _ _ _⟩
def mShare (i : Nat) (m : MS) : MS := fun s => m (shareS i s)
theorem s_share (i : Nat) (h : XS K C E X st ma) : XS K C E X st (mShare i ma) := ps_imp h fun D σ H ⟨H0, G, s, r, q⟩ => ⟨H0, G, shareS i s, (r.shared i).1, q.from (r.shared i).2⟩

/-! ### stores -/
theorem Tr.set {v : Option V} {d : D} (i : Nat) : Tr σ s H (σ.set i v) (s.set i (some (.sh d))) H := fun a o h n => ⟨h, fun ⟨j, ds, h1, h2⟩ => n (by
  rcases get_set h1 with ⟨_, e, _⟩ | ⟨hj, h1⟩
  · cases e
  · rcases get_set h2 with ⟨e, _⟩ | ⟨_, h2⟩
    · exact (hj e).elim
    · exact ⟨j, ds, h1, h2⟩)⟩
theorem Tr.setO {p : Addr} {ds : List D} (i : Nat) (e : Ex H H') (hp : H p = none) : Tr σ s H (σ.set i (some (.ref p))) (s.set i (some (.ow ds))) H' := fun a o h n => ⟨e a o h, fun ⟨j, es, h1, h2⟩ => n (by
  rcases get_set h1 with ⟨e1, _, _⟩ | ⟨hj, h1⟩
  · rcases get_set h2 with ⟨_, e2, _⟩ | ⟨q, _⟩
    · cases e2
      rw [hp] at h; cases h
    · exact (q e1).elim
  · rcases get_set h2 with ⟨q, _⟩ | ⟨_, h2⟩
    · exact (hj q).elim
    · exact ⟨j, es, h1, h2⟩)⟩
theorem Tr.mutO {i : Nat} {a : Addr} {es ds : List D} {xs : List V} (hi : s[i]? = some (some (Sl.ow es))) (ha : σ[i]? = some (some (V.ref a))) : Tr σ s H σ (s.set i (some (.ow ds))) (upd H a (.lst xs)) := fun b o h n => by
  have ne : b ≠ a := fun q => n ⟨i, es, hi, by rw [q]; exact ha⟩
  refine ⟨by rw [upd_ne ne]; exact h, fun ⟨j, es', h1, h2⟩ => n ?_⟩
  rcases get_set h1 with ⟨e1, _, _⟩ | ⟨hj, h1⟩
  · subst e1; exact ⟨j, es, hi, h2⟩
  · exact ⟨j, es', h1, h2⟩
/-- targets over data -/
abbrev MG := D → S → Option S
/-- but for the slots ts -/
def But {α : Type} (ts : List Nat) (l l' : List α) : Prop := l'.length = l.length ∧ ∀ j, j ∉ ts → l'[j]? = l[j]?
/-- how an item lies at a value -/
abbrev Rl := (Addr → Prop) → Hp → V → D → Prop
structure Wide (r : Rl) : Prop where
  go : ∀ (B B' : Addr → Prop) (H : Hp) (v : V) (d : D), (∀ a, B a → B' a) → r B H v d → r B' H v d
theorem wideR (K : Fg) : Wide (R K) := ⟨fun _ _ _ _ _ h r => r.wider h⟩
def gDr (rl : Rl) (K : Fg) (ts : List Nat) (g : MG) : TG := fun v σ H Q => ∃ H0 G s d s', RS K H0 G σ H s ∧ rl (Cl G σ s) H v d ∧ g d s = some s' ∧ ∀ σ', RS K H0 G σ' H s' → Tr σ s H σ' s' H → But ts σ σ' → But ts s s' → Q σ' H
abbrev gD (K : Fg) (ts : List Nat) (g : MG) : TG := gDr (R K) K ts g
abbrev XG (K : Fg) (X : Cx) (tg : Expr) (ts : List Nat) (g : MG) := PG X tg (gD K ts g)
theorem But.refl {α : Type} (ts : List Nat) (l : List α) : But ts l l := ⟨rfl, fun _ _ => rfl⟩
theorem But.trans {α : Type} {ts us : List Nat} {l l1 l2 : List α} (a : But ts l l1) (b : But us l1 l2) : But (ts ++ us) l l2 := ⟨b.1.trans a.1, fun j hj => by
  rw [List.mem_append] at hj
  rw [b.2 j fun z => hj (.inr z), a.2 j fun z => hj (.inl z)]⟩
theorem But.set {α : Type} (i : Nat) (l : List α) (x : α) : But [i] l (l.set i x) := ⟨List.length_set, fun j hj => List.getElem?_set_ne (fun e => hj (by simp [e]))⟩
def gN (i : Nat) : MG := fun d s => some (s.set i (some (.sh d)))
theorem pg_imp {tg : Expr} {t u : TG} (h : PG X tg t) (i : ∀ v σ H Q, u v σ H Q → t v σ H Q) : PG X tg u := ⟨fun pins s σ H v w Q I r q => h.run pins s σ H v w Q I r (i v σ H Q q)⟩
theorem g_name {i : Nat} {tg : Expr} (h : PG X tg (gName i)) : XG K X tg [i] (gN i) := pg_imp h fun v σ H Q ⟨H0, G, s, d, s', r, rv, e, q⟩ => by
  cases e
  exact q _ (r.set i rv) (Tr.set i) (But.set i _ _) (But.set i _ _)
def mAsgG (g : MG) (m : M) : MS := fun s => match (m s).bind fun d => g d s with
  | some s' => .nx s'
  | none => .no
def mAsg (i : Nat) (m : M) : MS := fun s => match m s with
  | some d => .nx (s.set i (some (.sh d)))
  | none => .no
def mAsgL (i : Nat) (m : ML) : MS := fun s => match m s with
  | some ds => .nx (s.set i (some (.ow ds)))
  | none => .no
theorem rdAsg {i : Nat} {Dn : Ends} {σ : St} {H : Hp} (h : sD K C E (mAsg i m) Dn σ H) : tAsg (tD K m) (gName i) Dn σ H := by
  obtain ⟨H0, G, s, r, q⟩ := h
  unfold mAsg at q
  cases hm : m s with
  | none => rw [hm] at q; exact q.elim
  | some d =>
    rw [hm] at q
    exact ⟨H0, G, s, d, r, hm, fun v H1 e1 rv => q _ H1 ((r.mono e1).set i rv) ((Tr.set (H := H1) i).ex e1)⟩
theorem rdAsgL {i : Nat} {Dn : Ends} {σ : St} {H : Hp} (h : sD K C E (mAsgL i ml) Dn σ H) : tAsg (tL K ml) (gName i) Dn σ H := by
  obtain ⟨H0, G, s, r, q⟩ := h
  unfold mAsgL at q
  cases hm : ml s with
  | none => rw [hm] at q; exact q.elim
  | some ds =>
    rw [hm] at q
    exact ⟨H0, G, s, ds, r, hm, fun p xs H1 hp e1 h1 hx => q _ H1 (r.setO i e1 hp h1 hx) (Tr.setO i e1 hp)⟩
/-- name = e; name = a fresh list: from a rule over readings -/
theorem s_asg {i : Nat} (h : PS X st (tAsg (tD K m) (gName i))) : XS K C E X st (mAsg i m) := ps_imp h fun _ _ _ q => rdAsg q
theorem s_asgL {i : Nat} (h : PS X st (tAsg (tL K ml) (gName i))) : XS K C E X st (mAsgL i ml) := ps_imp h fun _ _ _ q => rdAsgL q
theorem s_asgG {g : MG} {ts : List Nat} (h : PS X st (tAsg (tD K m) (gD K ts g))) : XS K C E X st (mAsgG g m) := ps_imp h fun D σ H ⟨H0, G, s, r, q⟩ => by
  unfold mAsgG at q
  cases hm : m s with
  | none => rw [hm] at q; exact q.elim
  | some d =>
    rw [hm] at q
    refine ⟨H0, G, s, d, r, hm, fun v H1 e1 rv => ?_⟩
    cases hg : g d s with
    | none => simp only [Option.bind_some, hg] at q; exact q.elim
    | some s' =>
      simp only [Option.bind_some, hg] at q
      exact ⟨H0, G, s, d, s', r.mono e1, rv, hg, fun σ' r' t _ _ => q σ' H1 r' (t.ex e1)⟩
def mRet (m : M) : MS := fun s => match m s with
  | some d => .rt d
  | none => .no
def mRetL (m : ML) : MS := fun s => match m s with
  | some ds => .rtl ds
  | none => .no
def mRetN : MS := fun _ => .rt .none
/-- return x, x a list of the def's own -/
def mRetO (i : Nat) : MS := fun s => match s[i]? with
  | some (some (.ow ds)) => .rtl ds
  | some (some (.sh d)) => .rt d
  | _ => .no
theorem s_ret (h : XE K X e m) : XS K C E X (.Return (some e) pos) (mRet m) := ps_imp (ps_ret h) fun D σ H ⟨H0, G, s, r, q⟩ => by
  unfold mRet at q
  cases hm : m s with
  | none => rw [hm] at q; exact q.elim
  | some d =>
    rw [hm] at q
    exact ⟨H0, G, s, d, r, hm, fun v H1 e1 rv => q v H1 (r.ex.trans e1) (rv.wider fun a z => z.1)⟩
theorem s_retL (h : XL K X e ml) : XS K C E X (.Return (some e) pos) (mRetL ml) := ps_imp (ps_ret h) fun D σ H ⟨H0, G, s, r, q⟩ => by
  unfold mRetL at q
  cases hm : ml s with
  | none => rw [hm] at q; exact q.elim
  | some d =>
    rw [hm] at q
    exact ⟨H0, G, s, d, r, hm, fun p xs H1 hp e1 h1 hx => q p xs H1 (r.ex.back hp) (r.ex.trans e1) h1 (hx.wider fun a z => ⟨z.1.1, z.2⟩)⟩
theorem s_retN : XS K C E X (.Return none pos) mRetN := ps_imp ps_retN fun D σ H ⟨H0, G, s, r, q⟩ => q _ H r.ex .non
theorem s_retO {i : Nat} (h : PE X e (tVar i)) : XS K C E X (.Return (some e) pos) (mRetO i) := ps_imp (ps_ret h) fun D σ H ⟨H0, G, s, r, q⟩ => by
  unfold mRetO at q
  split at q
  · rename_i ds hi
    obtain ⟨a, xs, h1, h2, h3, h4, h5⟩ := r.ow i ds hi
    exact ⟨.ref a, h1, q a xs H h3 r.ex h2 (h5.wider fun b z => ⟨z.1, fun w => z.2 ⟨i, ds, hi, by rw [w]; exact h1⟩⟩)⟩
  · rename_i d hi
    obtain ⟨v, h1, h2⟩ := r.sh i d hi
    exact ⟨v, h1, q v H r.ex (h2.wider fun b z => z.1)⟩
  · exact q.elim
def mDrop (m : M) : MS := fun s => match m s with
  | some _ => .nx s
  | none => .no
theorem s_drop (h : XE K X e m) (hs : swapsWith e none pos.line X.env = pure false := by rfl) : XS K C E X (.Expr e pos) (mDrop m) := ps_imp (ps_expr h hs) fun D σ H ⟨H0, G, s, r, q⟩ => by
  unfold mDrop at q
  cases hm : m s with
  | none => rw [hm] at q; exact q.elim
  | some d =>
    rw [hm] at q
    exact ⟨H0, G, s, d, r, hm, fun v H1 e1 rv => q σ H1 (r.mono e1) (Tr.grow e1)⟩
theorem s_doc {x : Str} {j : Nat} {p1 p2 : Pos} : XS K C E X (.Expr (.Constant (.str x) j p1) p2) mPass := ps_imp ps_doc fun D σ H ⟨H0, G, s, r, q⟩ => q σ H r (Tr.refl _ _ _)

/-! ### lists of the def's own change -/
/-- xs.append(e) -/
def mApp (i : Nat) (m : M) : MS := fun s => match s[i]? with
  | some (some (.ow ds)) => (match m s with
    | some d => if ds.length < 100000 then .nx (s.set i (some (.ow (ds ++ [d])))) else .no
    | none => .no)
  | _ => .no
theorem s_app {i : Nat} {x : Expr} {p1 p2 p3 : Pos} (hK : X.K = K) (hx : PE X x (tVar i)) (he : XE K X e m) (hs : swapsWith (.Call (.Attribute x "append" p1) [e] [] p2) none p3.line X.env = pure false := by rfl) (ht : PS X (.Expr (.Call (.Attribute x "append" p1) [e] [] p2) p3) (tDrop (tBM X.K "list" rAppend (tVar i) (tCons (tD K m) tNil)))) :
    XS K C E X (.Expr (.Call (.Attribute x "append" p1) [e] [] p2) p3) (mApp i m) := ps_imp ht fun D σ H ⟨H0, G, s, r, q⟩ => by
  subst hK
  unfold mApp at q
  split at q
  · rename_i ds hi
    split at q
    · rename_i d hm
      by_cases hl : ds.length < 100000
      · rw [if_pos hl] at q
        obtain ⟨a, xs, h1, h2, h3, h4, h5⟩ := r.ow i ds hi
        refine ⟨.ref a, h1, .inl ⟨rfl, xs, .inl (.inl h2)⟩, H0, G, s, d, r, hm, fun v H1 e1 rv => ?_⟩
        refine ⟨a, xs, v, rfl, rfl, e1 _ _ h2, sz_lt (by rw [h5.length]; exact hl), ?_⟩
        exact q σ _ ((r.mono e1).mutO hi h1 ((h5.ex e1).append (.cons rv .nil))) ((Tr.mutO hi h1).ex e1)
      · rw [if_neg hl] at q; exact q.elim
    · exact q.elim
  · exact q.elim
/-- xs[k] = e -/
def mSetIx (i : Nat) (k m : M) : MS := fun s => match s[i]? with
  | some (some (.ow ds)) => (match (m s).bind fun d => (k s).bind fun kd => (intOf kd).bind fun n => (ixN ds.length n).map fun j => (j, d) with
    | some (j, d) => .nx (s.set i (some (.ow (ds.set j d))))
    | none => .no)
  | _ => .no
theorem s_setix {i : Nat} {k m : M} (h : PS X st (tAsg (tD K m) (gSub (tVar i) (tBo K k) rSetL))) : XS K C E X st (mSetIx i k m) := ps_imp h fun D σ H ⟨H0, G, s, r, q⟩ => by
  unfold mSetIx at q
  split at q
  · rename_i ds hi
    split at q
    · rename_i j d hm
      obtain ⟨d', ed, hm⟩ := some_bind hm
      obtain ⟨kd, ek, hm⟩ := some_bind hm
      obtain ⟨n, en, hm⟩ := some_bind hm
      obtain ⟨j', ej, e⟩ := Option.map_eq_some_iff.mp hm
      cases e
      have := intOf_some en
      subst this
      obtain ⟨a, xs, h1, h2, h3, h4, h5⟩ := r.ow i ds hi
      refine ⟨H0, G, s, d, r, ed, fun v H1 e1 rv => ⟨.ref a, h1, H0, G, s, _, r.mono e1, ek, fun u H2 e2 ru => ?_⟩⟩
      cases ru.plain (fun _ h => nomatch h)
      have e12 := e1.trans e2
      refine ⟨a, xs, n, j, rfl, rfl, e12 _ _ h2, by rw [h5.length]; exact ej, ?_⟩
      exact q σ _ ((r.mono e12).mutO hi h1 ((h5.ex e12).set j (rv.ex e2))) ((Tr.mutO hi h1).ex e12)
    · exact q.elim
  · exact q.elim
/-- xs.reverse() -/
def mRevS (i : Nat) : MS := fun s => match s[i]? with
  | some (some (.ow ds)) => .nx (s.set i (some (.ow ds.reverse)))
  | _ => .no
theorem s_reverse {i : Nat} (hK : X.K = K) (h : PS X st (tDrop (tBM0 X.K "list" rReverse (tVar i)))) : XS K C E X st (mRevS i) := ps_imp h fun D σ H ⟨H0, G, s, r, q⟩ => by
  subst hK
  unfold mRevS at q
  split at q
  · rename_i ds hi
    obtain ⟨a, xs, h1, h2, h3, h4, h5⟩ := r.ow i ds hi
    exact ⟨.ref a, h1, .inl ⟨rfl, xs, .inl (.inl h2)⟩, a, xs, rfl, rfl, h2, q σ _ (r.mutO hi h1 h5.reverse) (Tr.mutO hi h1)⟩
  · exact q.elim
/-- x += e of whole numbers -/
def mAug (i : Nat) (f : Int → Int → Int) (m : M) : MS := fun s => match (mVar i s).bind fun x => (intOf x).bind fun a => (m s).bind fun y => (intOf y).map fun b => f a b with
  | some z => .nx (s.set i (some (.sh (.int z))))
  | none => .no
theorem s_aug {i : Nat} {f : Int → Int → Int} (h : PS X st (tAug i (tBo K m) (ipI f))) : XS K C E X st (mAug i f m) := ps_imp h fun D σ H ⟨H0, G, s, r, q⟩ => by
  unfold mAug at q
  split at q
  · rename_i z hz
    obtain ⟨x, ex, hz⟩ := some_bind hz
    obtain ⟨a, ea, hz⟩ := some_bind hz
    obtain ⟨y, ey, hz⟩ := some_bind hz
    obtain ⟨b, eb, rfl⟩ := Option.map_eq_some_iff.mp hz
    have := intOf_some ea
    subst this
    have := intOf_some eb
    subst this
    unfold mVar at ex
    split at ex
    · rename_i w
      cases ex
      obtain ⟨v, h1, h2⟩ := r.sh i _ w
      cases h2
      refine ⟨_, h1, H0, G, s, _, r, ey, fun u H1 e1 ru => ?_⟩
      cases ru.plain (fun _ h => nomatch h)
      exact ⟨a, b, rfl, rfl, q _ H1 ((r.mono e1).set i (.int _)) ((Tr.set (H := H1) i).ex e1)⟩
    · cases ex
  · exact q.elim
end
end DD

namespace DD
open PySem L2
/-! ### walks -/
def Kp (σ : St) (s : S) (H H' : Hp) : Prop := ∀ a o, H a = some o → ¬ Own σ s a → H' a = some o
theorem Kp.refl (σ : St) (s : S) (H : Hp) : Kp σ s H H := fun _ _ h _ => h
/-- the iterator yields the data ds, as long as what the def does not hold stands -/
structure Ylr (rl : Rl) (G : Addr → Prop) (σ : St) (s : S) (J : It) (ds : List D) (H1 : Hp) : Prop where
  go : ∀ (i : Nat) (d : D) (H2 : Hp), ds[i]? = some d → Kp σ s H1 H2 → J.go i H2
  yld : ∀ (i : Nat) (d : D) (H2 : Hp) (x : V) (H3 : Hp), ds[i]? = some d → Kp σ s H1 H2 → J.yld i H2 x H3 → Ex H2 H3 ∧ rl (fun a => Cl G σ s a ∧ H1 a ≠ none) H3 x d
  stop : ∀ H2, Kp σ s H1 H2 → J.stop ds.length H2
abbrev Yl (K : Fg) (G : Addr → Prop) (σ : St) (s : S) (J : It) (ds : List D) (H1 : Hp) : Prop := Ylr (R K) G σ s J ds H1
def iDr (rl : Rl) (K : Fg) (m : ML) : TI := fun σ H Rr => ∃ H0 G s ds, RS K H0 G σ H s ∧ m s = some ds ∧ ∀ J H1, Ex H H1 → Ylr rl G σ s J ds H1 → Rr J H1
abbrev iD (K : Fg) (m : ML) : TI := iDr (R K) K m
abbrev XI (K : Fg) (X : Cx) (tg it : Expr) (m : ML) := PI X tg it (iD K m)
section
variable {K : Fg} {X : Cx} {C : XC} {E : XK} {H0 H H' H1 H2 : Hp} {G B : Addr → Prop} {σ : St} {s : S} {tg e : Expr} {m : M} {ml : ML} {pos p : Pos}
theorem R.there {d : D} {v : V} (h : R K B H v d) : R K (fun a => B a ∧ H a ≠ none) H v d := R.to (fun a xs hb hr => ⟨⟨hb, rd_some hr⟩, hr⟩) (fun _ _ q => q) d v h
theorem RA.there {ds : List D} {vs : List V} (h : RA K B H vs ds) : RA K (fun a => B a ∧ H a ≠ none) H vs ds := RA.to (fun a xs hb hr => ⟨⟨hb, rd_some hr⟩, hr⟩) (fun _ _ q => q) ds vs h
theorem Kp.sqt (r : RS K H0 G σ H s) (k : Kp σ s H H') {a : Addr} {xs : List V} (h : TupX K H a xs) : TupX K H' a xs := h.to fun o u q => k a _ q fun w => by
  obtain ⟨ys, e, _⟩ := r.own_lst w
  rw [q] at e; cases e
theorem Kp.rd (k : Kp σ s H H') {a : Addr} {u : HO} (n : ¬ Own σ s a) (h : Rd H a u) : Rd H' a u := by
  rcases h with h | ⟨o, h⟩
  · exact .inl (k a _ h n)
  · exact .inr ⟨o, k a _ h n⟩
/-- clean data stands as long as what the def does not hold stands -/
theorem R.kp (r : RS K H0 G σ H s) (k : Kp σ s H H') {d : D} {v : V} (h : R K (Cl G σ s) H v d) : R K (fun a => Cl G σ s a ∧ H a ≠ none) H' v d :=
  R.to (fun a xs hb hr => ⟨⟨hb, rd_some hr⟩, k.rd hb.2 hr⟩) (fun _ _ q => k.sqt r q) d v h
theorem RA.kp (r : RS K H0 G σ H s) (k : Kp σ s H H') {ds : List D} {vs : List V} (h : RA K (Cl G σ s) H vs ds) : RA K (fun a => Cl G σ s a ∧ H a ≠ none) H' vs ds :=
  RA.to (fun a xs hb hr => ⟨⟨hb, rd_some hr⟩, k.rd hb.2 hr⟩) (fun _ _ q => k.sqt r q) ds vs h
def items : D → Option (List D)
  | .list ds => some ds
  | .tuple ds => some ds
  | _ => none
def iSeq (m : M) : ML := fun s => (m s).bind items
/-- for x in a clean list, in a tuple -/
theorem i_seq (hK : X.K = K) (h : XE K X e m) : XI K X tg e (iSeq m) := by
  subst hK
  refine ⟨fun pins s σ H Rr I ⟨H0, G, sd, ds, r, e1, q⟩ => ?_⟩
  obtain ⟨d, ed, e1⟩ := some_bind e1
  unfold items at e1
  split at e1
  · cases e1
    refine (pi_list h).run pins s σ H Rr I ⟨H0, G, sd, _, r, ed, fun v H1 e1 rv => ?_⟩
    cases rv with
    | lst hr ha =>
      rename_i a xs
      have st : ∀ H2, Kp σ sd H1 H2 → SqL X.K H2 a xs := fun H2 k => hr.elim (fun q => .inl (k.rd q.1.2 q.2)) .inr
      refine ⟨a, rfl, ⟨xs, hr.sql⟩, q _ H1 e1 ⟨fun i d H2 hd k => ?_, fun i d H2 x H3 hd k y => ?_, fun H2 k => ⟨xs, st H2 k, by rw [ha.length]; exact Nat.le_refl _⟩⟩⟩
      · obtain ⟨v, hv, _⟩ := ha.get hd
        exact ⟨xs, v, st H2 k, hv⟩
      · obtain ⟨rfl, y⟩ := y
        have hx := y xs (st _ k)
        obtain ⟨v, hv, rv⟩ := ha.get hd
        rw [hv] at hx; cases hx
        exact ⟨Ex.refl _, R.kp (r.mono e1) k rv⟩
  · cases e1
    refine (pi_tup h).run pins s σ H Rr I ⟨H0, G, sd, _, r, ed, fun v H1 e1 rv => ?_⟩
    cases rv with
    | tup hr ha =>
      rename_i a xs
      have st : ∀ H2, Kp σ sd H1 H2 → SqT X.K H2 a xs := fun H2 k => (k.sqt (r.mono e1) hr).sqt
      refine ⟨a, rfl, ⟨xs, hr.sqt⟩, q _ H1 e1 ⟨fun i d H2 hd k => ?_, fun i d H2 x H3 hd k y => ?_, fun H2 k => ⟨xs, st H2 k, by rw [ha.length]; exact Nat.le_refl _⟩⟩⟩
      · obtain ⟨v, hv, _⟩ := ha.get hd
        exact ⟨xs, v, st H2 k, hv⟩
      · obtain ⟨rfl, y⟩ := y
        have hx := y xs (st _ k)
        obtain ⟨v, hv, rv⟩ := ha.get hd
        rw [hv] at hx; cases hx
        exact ⟨Ex.refl _, R.kp (r.mono e1) k rv⟩
  · cases e1
/-- whole numbers lo, lo + 1, .. -/
def rangeD (lo : Int) (n : Nat) : List D := (List.range n).map fun i => .int (lo + (i : Nat))
theorem yl_range {lo : Int} {n : Nat} : Yl K G σ s (Itr lo n) (rangeD lo n) H1 := by
  refine ⟨fun i d H2 hd k => ?_, fun i d H2 x H3 hd k y => ?_, fun H2 k => ?_⟩
  · obtain ⟨hl, _⟩ := List.getElem?_eq_some_iff.mp hd
    have h2 : i < n := by simpa [rangeD] using hl
    exact h2
  · obtain ⟨rfl, rfl⟩ := y
    obtain ⟨hl, hd⟩ := List.getElem?_eq_some_iff.mp hd
    have : d = .int (lo + (i : Nat)) := by rw [← hd]; simp [rangeD]
    subst this
    exact ⟨Ex.refl _, .int _⟩
  · show n ≤ (rangeD lo n).length
    simp [rangeD]
def lim (n : Int) : Bool := decide (-1000000 ≤ n ∧ n ≤ 1000000)
def iRange1 (m : ML) : ML := fun s => (m s).bind fun ds => match ds with
  | [.int n] => if lim n = true then some (rangeD 0 n.toNat) else none
  | _ => none
def iRange2 (m : ML) : ML := fun s => (m s).bind fun ds => match ds with
  | [.int i, .int j] => if lim i = true ∧ lim j = true then some (rangeD i (j - i).toNat) else none
  | _ => none
theorem lim_of {n : Int} (h : lim n = true) : -1000000 ≤ n ∧ n ≤ 1000000 := of_decide_eq_true h
variable {a b : Expr}
theorem i_range1 (hg : Gl X "range") (hm : X.mg "range" = none) (ha : XAb K X [a] ml) (hs : starEach [a] X.env = [(false, eval a X.env)] := by rfl) : XI K X tg (.Call (.Name "range" p) [a] [] pos) (iRange1 ml) := by
  refine ⟨fun pins s σ H Rr I ⟨H0, G, sd, ds, r, e0, q⟩ => (pi_range1 hg hm ha hs).run pins s σ H Rr I ?_⟩
  obtain ⟨es, ee, e3⟩ := some_bind e0
  clear e0
  refine ⟨H0, G, sd, es, r, ee, fun vs H1 e2 rv => ?_⟩
  split at e3
  · obtain ⟨hl, e3⟩ := if_some e3
    cases e3
    rename_i n
    have := lim_of hl
    cases rv with
    | cons h1 h2 =>
      cases h1; cases h2
      exact ⟨n, rfl, by omega, by omega, q _ H1 e2 yl_range⟩
  · cases e3
theorem i_range2 (hg : Gl X "range") (hm : X.mg "range" = none) (ha : XAb K X [a, b] ml) (hs : starEach [a, b] X.env = [(false, eval a X.env), (false, eval b X.env)] := by rfl) (hs2 : starEach [b] X.env = [(false, eval b X.env)] := by rfl) :
    XI K X tg (.Call (.Name "range" p) [a, b] [] pos) (iRange2 ml) := by
  refine ⟨fun pins s σ H Rr I ⟨H0, G, sd, ds, r, e0, q⟩ => (pi_range2 hg hm ha hs hs2).run pins s σ H Rr I ?_⟩
  obtain ⟨es, ee, e3⟩ := some_bind e0
  clear e0
  refine ⟨H0, G, sd, es, r, ee, fun vs H1 e2 rv => ?_⟩
  split at e3
  · obtain ⟨⟨hl, hl2⟩, e3⟩ := if_some e3
    cases e3
    rename_i i j
    have := lim_of hl
    have := lim_of hl2
    cases rv with
    | cons h1 h2 =>
      cases h1
      cases h2 with
      | cons h2 h3 =>
        cases h2; cases h3
        exact ⟨i, j, rfl, ⟨by omega, by omega, by omega, by omega⟩, q _ H1 e2 yl_range⟩
  · cases e3

/-! ### for -/
def mFor (g : MG) (body : MS) : List D → S → Out
  | [], s => .nx s
  | d :: ds, s => match g d s with
    | none => .no
    | some s1 => match body s1 with
      | .nx s2 => mFor g body ds s2
      | .ct s2 => mFor g body ds s2
      | .bk s2 => .nx s2
      | .rt d => .rt d
      | .rtl ds => .rtl ds
      | .ex c fs => .ex c fs
      | .no => .no
theorem mFor_nil (g : MG) (body : MS) (s : S) : mFor g body [] s = .nx s := rfl
theorem mFor_cons (g : MG) (body : MS) (d : D) (ds : List D) (s : S) : mFor g body (d :: ds) s = match g d s with
    | none => .no
    | some s1 => match body s1 with
      | .nx s2 => mFor g body ds s2
      | .ct s2 => mFor g body ds s2
      | .bk s2 => .nx s2
      | .rt d => .rt d
      | .rtl ds => .rtl ds
      | .ex c fs => .ex c fs
      | .no => .no := rfl
def mForS (mi : ML) (g : MG) (body : MS) : MS := fun s => match mi s with
  | some ds => mFor g body ds s
  | none => .no
theorem Tr.clean {rl : Rl} (wd : Wide rl) {σ' : St} {s' : S} (t : Tr σ s H1 σ' s' H2) {d : D} {v : V} {H3 : Hp} (h : rl (fun a => Cl G σ s a ∧ H1 a ≠ none) H3 v d) : rl (Cl G σ' s') H3 v d :=
  wd.go _ _ _ _ _ (fun a ⟨⟨g, n⟩, ne⟩ => ⟨g, by
    cases hH : H1 a with
    | none => exact (ne hH).elim
    | some o => exact (t a o hH n).2⟩) h
theorem s_forR {rl : Rl} (wd : Wide rl) {it : Expr} {body : List Stmt} {g : MG} {ts : List Nat} {mb : MS} (hp : PassesOwn (model X.prog X.w) X.A X.env X.xe) (hc : X.calm = true) (hi : PI X tg it (iDr rl K ml)) (hg : PG X tg (gDr rl K ts g)) (hb : XSs K C E X body mb) (hs : ∀ x, foldedSetIterable it X.env x = pure x := by intro _; rfl) :
    XS K C E X (.For tg it body [] pos) (mForS ml g mb) := ps_imp (ps_for hp hc hi hg hb hs) fun Dn σ H ⟨H0, G, s, r, q⟩ => by
  unfold mForS at q
  cases hm : ml s with
  | none => rw [hm] at q; exact q.elim
  | some ds =>
    rw [hm] at q
    have q : Post K H0 G C E σ s H Dn (mFor g mb ds s) := q
    refine ⟨H0, G, s, ds, r, hm, fun J H1 e1 yl => ?_⟩
    refine ⟨fun i n σ' H' => ∃ s', n = ds.length - i ∧ i ≤ ds.length ∧ RS K H0 G σ' H' s' ∧ Tr σ s H1 σ' s' H' ∧ mFor g mb (ds.drop i) s' = mFor g mb ds s,
      ⟨ds.length, s, rfl, Nat.zero_le _, r.mono e1, Tr.refl _ _ _, rfl⟩, fun i n σ' H' ⟨s', en, hi', r', t', eo⟩ => ?_⟩
    have kp : Kp σ s H1 H' := fun a o h n => (t' a o h n).1
    by_cases hlt : i < ds.length
    · have hd : ds[i]? = some ds[i] := List.getElem?_eq_getElem hlt
      rw [List.drop_eq_getElem_cons hlt] at eo
      refine .inr ⟨yl.go i _ H' hd kp, fun σ'' H'' => ∃ s', RS K H0 G σ'' H'' s' ∧ Tr σ s H1 σ'' s' H'' ∧ mFor g mb (ds.drop (i + 1)) s' = mFor g mb ds s, fun σ'' H'' ⟨s'', r'', t'', eo''⟩ => ⟨ds.length - (i + 1), by omega, s'', rfl, hlt, r'', t'', eo''⟩, fun x H3 y => ?_⟩
      obtain ⟨e3, rx⟩ := yl.yld i _ H' x H3 hd kp y
      rw [mFor_cons] at eo
      cases hgd : g ds[i] s' with
      | none =>
        simp only [hgd] at eo
        rw [← eo] at q
        exact q.elim
      | some s1 =>
        simp only [hgd] at eo
        refine ⟨H0, G, s', ds[i], s1, r'.mono e3, Tr.clean (rl := rl) wd t' rx, hgd, fun σ2 r2 t2 _ _ => ?_⟩
        have tt : Tr σ s H1 σ2 s1 H3 := (t'.trans (Tr.grow e3)).trans t2
        refine ⟨H0, G, s1, r2, ?_⟩
        cases hb' : mb s1 with
        | nx s2 =>
          simp only [hb'] at eo
          exact fun σ4 H4 r4 t4 => ⟨s2, r4, tt.trans t4, eo⟩
        | ct s2 =>
          simp only [hb'] at eo
          exact fun σ4 H4 r4 t4 => ⟨s2, r4, tt.trans t4, eo⟩
        | bk s2 =>
          simp only [hb'] at eo
          rw [← eo] at q
          exact fun σ4 H4 r4 t4 => q σ4 H4 r4 ((tt.trans t4).ex e1)
        | rt d =>
          simp only [hb'] at eo
          rw [← eo] at q
          exact q
        | rtl d =>
          simp only [hb'] at eo
          rw [← eo] at q
          exact q
        | ex c fs =>
          simp only [hb'] at eo
          rw [← eo] at q
          exact q
        | no =>
          simp only [hb'] at eo
          rw [← eo] at q
          exact q
    · have hie : i = ds.length := by omega
      subst hie
      rw [List.drop_length] at eo
      rw [mFor_nil] at eo
      rw [← eo] at q
      exact .inl ⟨yl.stop H' kp, q σ' H' r' (t'.ex e1)⟩

theorem s_for {it : Expr} {body : List Stmt} {g : MG} {ts : List Nat} {mb : MS} (hp : PassesOwn (model X.prog X.w) X.A X.env X.xe) (hc : X.calm = true) (hi : XI K X tg it ml) (hg : XG K X tg ts g) (hb : XSs K C E X body mb) (hs : ∀ x, foldedSetIterable it X.env x = pure x := by intro _; rfl) :
    XS K C E X (.For tg it body [] pos) (mForS ml g mb) := s_forR (rl := R K) (wideR K) hp hc hi hg hb hs
/-! ### [e for x in xs if t] -/
def mComp (g : MG) (mt : MB) (me : M) (s : S) : List D → Option (List D)
  | [] => some []
  | d :: ds => (g d s).bind fun s1 => (mt s1).bind fun b => if b = true then (me s1).bind fun y => (mComp g mt me s ds).map (y :: ·) else mComp g mt me s ds
def wipeS (s : S) : List Nat → S
  | [] => s
  | v :: vs => (wipeS s vs).set v none
def unowned (s : S) (vs : List Nat) : Bool := vs.all fun v => match s[v]? with
  | some (some (.ow _)) => false
  | _ => true
def mLc (mi : ML) (g : MG) (mt : MB) (me : M) (vs : List Nat) : ML := fun s => if unowned s vs = true then (mi s).bind fun ds => if ds.length ≤ 50000 then mComp g mt me (wipeS s vs) ds else none else none
theorem wipe_at {σ : St} {j : Nat} : ∀ {vs : List Nat}, j ∈ vs → j < σ.length → (wipe σ vs)[j]? = some none := by
  intro vs
  induction vs with
  | nil => intro h _; cases h
  | cons v vs ih =>
    intro h hl
    show ((wipe σ vs).set v none)[j]? = some none
    by_cases hj : j = v
    · subst hj
      exact List.getElem?_set_self (by rw [wipe_length]; exact hl)
    · rw [List.getElem?_set_ne (Ne.symm hj)]
      exact ih ((List.mem_cons.mp h).resolve_left hj) hl
theorem wipeS_out {s : S} {i : Nat} : ∀ {vs : List Nat}, i ∉ vs → (wipeS s vs)[i]? = s[i]? := by
  intro vs
  induction vs with
  | nil => intro _; rfl
  | cons v vs ih =>
    intro h
    show ((wipeS s vs).set v none)[i]? = s[i]?
    rw [List.getElem?_set_ne fun e => h (by simp [e]), ih fun z => h (List.mem_cons_of_mem _ z)]
theorem wipe_but {σ σ' : St} {ts vs : List Nat} (b : But ts (wipe σ vs) σ') (hs : ∀ t ∈ ts, t ∈ vs) : wipe σ' vs = wipe σ vs := by
  have hl : σ'.length = σ.length := b.1.trans (wipe_length σ vs)
  apply List.ext_getElem?
  intro j
  by_cases hj : j ∈ vs
  · by_cases hl2 : j < σ.length
    · rw [wipe_at hj (by omega), wipe_at hj hl2]
    · rw [List.getElem?_eq_none (by rw [wipe_length]; omega), List.getElem?_eq_none (by rw [wipe_length]; omega)]
  · rw [wipe_out hj, b.2 j fun z => hj (hs j z)]
theorem RS.forget (r : RS K H0 G σ H s) {v : Nat} (n : ∀ ds : List D, s[v]? ≠ some (some (Sl.ow ds))) : RS K H0 G (σ.set v none) H (s.set v none) ∧ ∀ a, Own (σ.set v none) (s.set v none) a ↔ Own σ s a := by
  have ow : ∀ a, Own (σ.set v none) (s.set v none) a ↔ Own σ s a := fun a => by
    constructor
    · rintro ⟨j, ds, h1, h2⟩
      rcases get_set h1 with ⟨_, e, _⟩ | ⟨hj, h1⟩
      · cases e
      · rw [List.getElem?_set_ne (Ne.symm hj)] at h2
        exact ⟨j, ds, h1, h2⟩
    · rintro ⟨j, ds, h1, h2⟩
      have hj : v ≠ j := fun e => n ds (e ▸ h1)
      exact ⟨j, ds, by rw [List.getElem?_set_ne hj]; exact h1, by rw [List.getElem?_set_ne hj]; exact h2⟩
  have cl : ∀ a, Cl G σ s a → Cl G (σ.set v none) (s.set v none) a := fun a z => ⟨z.1, fun o => z.2 ((ow a).mp o)⟩
  refine ⟨⟨by rw [List.length_set, List.length_set]; exact r.len, r.ex, r.new, fun j d h => ?_, fun j ds h => ?_, fun j k di dj a h1 h2 h3 h4 => ?_, fun j ks h => ?_⟩, ow⟩
  · rcases get_set h with ⟨_, e, _⟩ | ⟨hj, h⟩
    · cases e
    · obtain ⟨u, h1, h2⟩ := r.sh j d h
      exact ⟨u, by rw [List.getElem?_set_ne (Ne.symm hj)]; exact h1, h2.wider cl⟩
  · rcases get_set h with ⟨_, e, _⟩ | ⟨hj, h⟩
    · cases e
    · obtain ⟨a, xs, h1, h2, h3, h4, h5⟩ := r.ow j ds h
      exact ⟨a, xs, by rw [List.getElem?_set_ne (Ne.symm hj)]; exact h1, h2, h3, h4, h5.wider cl⟩
  · rcases get_set h1 with ⟨_, e, _⟩ | ⟨n1, h1⟩
    · cases e
    rcases get_set h2 with ⟨_, e, _⟩ | ⟨n2, h2⟩
    · cases e
    rw [List.getElem?_set_ne (Ne.symm n1)] at h3
    rw [List.getElem?_set_ne (Ne.symm n2)] at h4
    exact r.inj j k di dj a h1 h2 h3 h4
  · rcases get_set h with ⟨_, e, _⟩ | ⟨hj, h⟩
    · cases e
    · obtain ⟨u, h1, h2⟩ := r.st j ks h
      exact ⟨u, by rw [List.getElem?_set_ne (Ne.symm hj)]; exact h1, h2⟩
theorem unowned_at {vs : List Nat} (u : unowned s vs = true) {v : Nat} (hv : v ∈ vs) (ds : List D) : s[v]? ≠ some (some (Sl.ow ds)) := fun h => by
  have := List.all_eq_true.mp u v hv
  rw [h] at this
  exact absurd this Bool.false_ne_true
theorem wipeS_ow {vs : List Nat} {j : Nat} {ds : List D} (h : (wipeS s vs)[j]? = some (some (Sl.ow ds))) : s[j]? = some (some (Sl.ow ds)) := by
  induction vs with
  | nil => exact h
  | cons v vs ih =>
    rcases get_set (l := wipeS s vs) h with ⟨_, e, _⟩ | ⟨_, h⟩
    · cases e
    · exact ih h
theorem RS.wiped : ∀ {vs : List Nat}, RS K H0 G σ H s → unowned s vs = true → RS K H0 G (wipe σ vs) H (wipeS s vs) ∧ ∀ a, Own (wipe σ vs) (wipeS s vs) a ↔ Own σ s a
  | [], r, _ => ⟨r, fun _ => Iff.rfl⟩
  | v :: vs, r, u => by
    have u' : unowned s vs = true := by
      unfold unowned at u ⊢
      rw [List.all_cons, Bool.and_eq_true] at u
      exact u.2
    obtain ⟨r1, o1⟩ := RS.wiped r u'
    obtain ⟨r2, o2⟩ := r1.forget (v := v) fun ds h => unowned_at u List.mem_cons_self ds (wipeS_ow h)
    exact ⟨r2, fun a => (o2 a).trans (o1 a)⟩
/-- a new object at p is kept apart -/
theorem RS.but (r : RS K H0 G σ H s) {p : Addr} (hp : H p = none) (e : Ex H H') (h' : H' p ≠ none) : RS K H0 (fun a => G a ∧ a ≠ p) σ H' s := by
  have cl : ∀ a, Cl G σ s a ∧ a ≠ p → Cl (fun a => G a ∧ a ≠ p) σ s a := fun a z => ⟨⟨z.1.1, z.2⟩, z.1.2⟩
  refine ⟨r.len, r.ex.trans e, fun a h => ⟨r.new a (e.back h), fun q => h' (q ▸ h)⟩, fun j d h => ?_, fun j ds h => ?_, r.inj, fun j ks h => let ⟨u, h1, h2⟩ := r.st j ks h; ⟨u, h1, h2.ex e⟩⟩
  · obtain ⟨u, h1, h2⟩ := r.sh j d h
    exact ⟨u, h1, ((h2.free hp).wider cl).ex e⟩
  · obtain ⟨a, xs, h1, h2, h3, h4, h5⟩ := r.ow j ds h
    exact ⟨a, xs, h1, e _ _ h2, h3, ⟨h4, fun q => by rw [q, hp] at h2; cases h2⟩, ((h5.free hp).wider cl).ex e⟩
theorem RA.upd {p : Addr} {ys zs : List V} (hp : H p = some (.lst ys)) {ds : List D} {vs : List V} (h : RA K (fun a => B a ∧ a ≠ p) H vs ds) : RA K (fun a => B a ∧ a ≠ p) (L2.upd H p (.lst zs)) vs ds :=
  RA.to (fun a xs hb hr => ⟨hb, by
    rcases hr with h | ⟨o, h⟩
    · exact .inl (by rw [upd_ne hb.2]; exact h)
    · exact .inr ⟨o, by rw [upd_ne hb.2]; exact h⟩⟩) (fun a xs h => h.to fun o u q => by rw [upd_ne (fun w => by rw [w, hp] at q; cases q)]; exact q) ds vs h
theorem mComp_cons (g : MG) (mt : MB) (me : M) (s : S) (d : D) (ds : List D) : mComp g mt me s (d :: ds) = (g d s).bind fun s1 => (mt s1).bind fun b => if b = true then (me s1).bind fun y => (mComp g mt me s ds).map (y :: ·) else mComp g mt me s ds := rfl
theorem rdLcR {rl : Rl} (wd : Wide rl) {g : MG} {ts : List Nat} {mt : MB} {me : M} {vs : List Nat} (hts : ∀ t ∈ ts, t ∈ vs) {σ : St} {H : Hp} {Q : VK} (h : tL K (mLc ml g mt me vs) σ H Q) : tLc (iDr rl K ml) (gDr rl K ts g) (tT K mt) (tD K me) vs σ H Q := by
  obtain ⟨H0, G, s, es, r, e, q⟩ := h
  obtain ⟨hu, e⟩ := if_some e
  obtain ⟨ds, ed, e⟩ := some_bind e
  obtain ⟨hz, e⟩ := if_some e
  refine ⟨H0, G, s, ds, r, ed, fun J H1 e1 yl P hP => ?_⟩
  have r1 := r.mono e1
  refine ⟨fun i n H' => ∃ acc done, n = ds.length - i ∧ i ≤ ds.length ∧ Ex H1 H' ∧ H' P = some (.lst acc) ∧ RA K (fun a => Cl G σ s a ∧ a ≠ P) H' acc done ∧ done.length ≤ i ∧ (mComp g mt me (wipeS s vs) (ds.drop i)).map (done ++ ·) = some es,
    ⟨ds.length, [], [], rfl, Nat.zero_le _, Ex.new hP, upd_same, .nil, Nat.le_refl _, ?_⟩, fun i n H' ⟨acc, done, en, hi, ex, hacc, ra, hdl, em⟩ => ?_⟩
  · rw [List.drop_zero, e]; rfl
  have kp : Kp σ s H1 H' := fun a o h _ => ex a o h
  by_cases hlt : i < ds.length
  · have hd : ds[i]? = some ds[i] := List.getElem?_eq_getElem hlt
    rw [List.drop_eq_getElem_cons hlt, mComp_cons] at em
    refine .inr ⟨yl.go i _ H' hd kp, fun H'' => ∃ acc done, Ex H1 H'' ∧ H'' P = some (.lst acc) ∧ RA K (fun a => Cl G σ s a ∧ a ≠ P) H'' acc done ∧ done.length ≤ i + 1 ∧ (mComp g mt me (wipeS s vs) (ds.drop (i + 1))).map (done ++ ·) = some es,
      fun H'' ⟨acc, done, z1, z2, z3, z4, z5⟩ => ⟨ds.length - (i + 1), by omega, acc, done, rfl, hlt, z1, z2, z3, z4, z5⟩, fun x H3 y => ?_⟩
    obtain ⟨e3, rx⟩ := yl.yld i _ H' x H3 hd kp y
    have hacc3 := e3 _ _ hacc
    cases hg : g ds[i] (wipeS s vs) with
    | none => rw [hg] at em; cases em
    | some s1 =>
      rw [hg, Option.bind_some] at em
      obtain ⟨rw1, ow1⟩ := (r1.but hP (ex.trans e3) (by rw [hacc3]; intro z; cases z)).wiped hu
      have up : ∀ a, Cl G (wipe σ vs) (wipeS s vs) a → Cl G σ s a := fun a z => ⟨z.1, fun o => z.2 ((ow1 a).mpr o)⟩
      refine ⟨H0, _, wipeS s vs, ds[i], s1, rw1, wd.go _ _ _ _ _ (fun a z => ⟨⟨z.1.1, fun w => z.2 (w ▸ hP)⟩, fun o => z.1.2 ((ow1 a).mp o)⟩) rx, hg, fun σ2 r2 t2 b1 b2 => ⟨wipe_but b1 hts, ?_⟩⟩
      have down : ∀ a, Cl (fun a => G a ∧ a ≠ P) σ2 s1 a → Cl G σ s a ∧ a ≠ P := fun a z => ⟨⟨z.1.1, fun o => by
        obtain ⟨j, es', h1, h2⟩ := (ow1 a).mpr o
        have hj : j ∉ ts := fun w => unowned_at hu (hts j w) es' (wipeS_ow h1)
        exact z.2 ⟨j, es', by rw [b2.2 j hj]; exact h1, by rw [b1.2 j hj]; exact h2⟩⟩, z.1.2⟩
      cases eb : mt s1 with
      | none => rw [eb] at em; cases em
      | some b =>
      rw [eb, Option.bind_some] at em
      refine ⟨H0, _, s1, b, r2, eb, fun H4 e4 => ?_⟩
      have hacc4 := e4 _ _ hacc3
      cases b with
      | false =>
        refine iteF ?_
        rw [if_neg Bool.false_ne_true] at em
        exact ⟨acc, done, (ex.trans e3).trans e4, hacc4, (ra.ex e3).ex e4, by omega, em⟩
      | true =>
        refine iteT ?_
        rw [if_pos rfl] at em
        cases hy : me s1 with
        | none => rw [hy] at em; cases em
        | some y =>
          rw [hy, Option.bind_some] at em
          refine ⟨H0, _, s1, y, r2.mono e4, hy, fun v H5 e5 rv => ?_⟩
          have hacc5 := e5 _ _ hacc4
          have e15 := ((ex.trans e3).trans e4).trans e5
          refine ⟨acc, hacc5, sz_lt (by rw [ra.length]; omega), acc ++ [v], done ++ [y], e15.mut hP, upd_same, RA.upd hacc5 ((((ra.ex e3).ex e4).ex e5).append (.cons (rv.wider down) .nil)), by rw [List.length_append]; exact Nat.succ_le_succ hdl, ?_⟩
          rw [← em]
          cases mComp g mt me (wipeS s vs) (ds.drop (i + 1)) with
          | none => rfl
          | some zs => simp
  · have hie : i = ds.length := by omega
    subst hie
    rw [List.drop_length] at em
    have em2 : some (done ++ []) = some es := em
    cases em2
    rw [List.append_nil] at q
    exact .inl ⟨yl.stop H' kp, q P acc H' (e1.back hP) (e1.trans ex) hacc ra⟩
theorem rdLc {g : MG} {ts : List Nat} {mt : MB} {me : M} {vs : List Nat} (hts : ∀ t ∈ ts, t ∈ vs) {σ : St} {H : Hp} {Q : VK} (h : tL K (mLc ml g mt me vs) σ H Q) : tLc (iD K ml) (gD K ts g) (tT K mt) (tD K me) vs σ H Q := rdLcR (rl := R K) (wideR K) hts h
end
end DD

namespace DD
open PySem L2
section
variable {K : Fg} {X : Cx} {C : XC} {E : XK} {H0 H H' H1 H2 : Hp} {G B : Addr → Prop} {σ : St} {s : S} {tg e a b : Expr} {m ma mb : M} {ml : ML} {pos p : Pos} {es : List Expr}
/-! ### comprehensions as expressions -/
def mYes : MB := fun _ => some true
abbrev XTs (K : Fg) (X : Cx) (ifs : List Expr) (mt : MB) := PTs X ifs (tT K mt)
theorem ts_nil : XTs K X [] mYes := ⟨fun pins s σ H Q I ⟨H0, G, sd, b, r, e, q⟩ => pts_nil.run pins s σ H Q I (by cases e; exact q H (Ex.refl _))⟩
theorem ts_one {c : Expr} {mt : MB} (h : XT K X c mt) : XTs K X [c] mt := pts_one h
theorem l_lc {elt iter : Expr} {ifs : List Expr} {scope : Scope} {own : List (Str × Nat)} {mi : ML} {g : MG} {ts : List Nat} {mt : MB} {me : M} (hc : X.calm = true) (hN : X.N.Nodup) (hi : XI K X tg iter mi) (ok : BlkOk X.N X.env.scope scope own)
    (hg : ∀ (s : Shared) (H : Hp) (C : Addr) (cl : List (Str × Addr)) (fp : List Addr), XG K (X.blk s H scope (compEnvC scope cl C X.env) fp) tg ts g) (ht : ∀ (s : Shared) (H : Hp) (C : Addr) (cl : List (Str × Addr)) (fp : List Addr), XTs K (X.blk s H scope (compEnvC scope cl C X.env) fp) ifs mt)
    (he : ∀ (s : Shared) (H : Hp) (C : Addr) (cl : List (Str × Addr)) (fp : List Addr), XE K (X.blk s H scope (compEnvC scope cl C X.env) fp) elt me) (hts : ∀ t ∈ ts, t ∈ own.map (·.2)) (hs : ∀ x, foldedSetIterable iter X.env x = pure x := by intro _; rfl) :
    XL K X (.ListComp elt [⟨tg, iter, ifs, 0⟩] scope pos) (mLc mi g mt me (own.map (·.2))) := pe_imp (pe_lc hc hN hi ok hg ht he hs) fun _ _ _ h => rdLc hts h
theorem s_setLc {i : Nat} {y : Str} {py spos : Pos} {elt iter : Expr} {ifs : List Expr} {scope : Scope} {own : List (Str × Nat)} {mi : ML} {g : MG} {ts : List Nat} {mt : MB} {me : M} (hc : X.calm = true) (hN : X.N.Nodup) (hy : X.N[i]? = some y) (hyl : X.env.scope.names.lookup y = some .local)
    (hsw : swapsWith (.ListComp elt [⟨tg, iter, ifs, 0⟩] scope pos) (some (.Name y py)) spos.line X.env = pure true) (hi : XI K X tg iter mi) (ok : BlkOk X.N X.env.scope scope own)
    (hg : ∀ (s : Shared) (H : Hp) (C : Addr) (cl : List (Str × Addr)) (fp : List Addr), XG K (X.blk s H scope (compEnvC scope cl C X.env) fp) tg ts g) (ht : ∀ (s : Shared) (H : Hp) (C : Addr) (cl : List (Str × Addr)) (fp : List Addr), XTs K (X.blk s H scope (compEnvC scope cl C X.env) fp) ifs mt)
    (he : ∀ (s : Shared) (H : Hp) (C : Addr) (cl : List (Str × Addr)) (fp : List Addr), XE K (X.blk s H scope (compEnvC scope cl C X.env) fp) elt me) (hts : ∀ t ∈ ts, t ∈ own.map (·.2)) (hs : ∀ x, foldedSetIterable iter X.env x = pure x := by intro _; rfl) :
    XS K C E X (.Assign [.Name y py] (.ListComp elt [⟨tg, iter, ifs, 0⟩] scope pos) spos) (mAsgL i (mLc mi g mt me (own.map (·.2)))) := by
  refine ps_imp (ps_setLc hc hN hy hyl hsw hi ok hg ht he hs) fun Dn σ H h => ?_
  have h2 : tAsg (tL K (mLc mi g mt me (own.map (·.2)))) (gName i) Dn σ H := rdAsgL h
  exact rdLc hts h2

/-! ### own functions -/
def PostF (K : Fg) (C : XC) (B : Addr → Prop) (H : Hp) (Q : VK) (E : XK) : Out → Prop
  | .nx _ => ∀ H', Ex H H' → Q .non H'
  | .rt d => ∀ v H', Ex H H' → R K (fun a => B a ∨ H a = none) H' v d → Q v H'
  | .rtl ds => ∀ p xs H', H p = none → Ex H H' → H' p = some (.lst xs) → RA K (fun a => (B a ∨ H a = none) ∧ a ≠ p) H' xs ds → Q (.ref p) H'
  | .ex c fs => ∀ cls d H', Ex H H' → C c fs cls d H' → E cls d H'
  | _ => False
abbrev MF := List D → Out
def spD (K : Fg) (C : XC) (n : Nat) (m : MF) : Sp := fun vs H Q E => ∃ B ds, ds.length = n ∧ RA K B H vs ds ∧ PostF K C B H Q E (m ds)
/-- an own function as its callers see it -/
structure Cal (P : Program) (w : World) (K : Fg) (mg : Str → Option Value) (base : Heap) (CX : CXT) (C : XC) (k : Nat) (x : Str) (n : Nat) (m : MF) : Prop where
  ex : ∃ f fd ps, FnOk P w K mg base CX k f fd ps (spD K C n m) ∧ mg x = some (.ref f) ∧ PySem.W.keepIn K (.ref f) = true ∧ Binds K fd ps []
/-- an own function's value from its answer -/
def valOf : Out → Option D
  | .nx _ => some .none
  | .rt d => some d
  | .rtl ds => some (.list ds)
  | _ => none
def lstOf : Out → Option (List D)
  | .rtl ds => some ds
  | _ => none
def guard (f : D → Bool) (d : D) : Option D := if f d = true then some d else none
def okList : List D → Option (List D) := fun ds => if flatD.go ds = true then some ds else none
/-- f(..) with clean arguments -/
def mCall (n : Nat) (f : MF) (as : ML) : M := fun s => (as s).bind fun ds => if ds.length = n then valOf (f ds) else none
/-- .. with any arguments: what comes back holds no list of theirs -/
def mCallB (n : Nat) (f : MF) (as : ML) : M := fun s => (as s).bind fun ds => if ds.length = n then (match f ds with
  | .nx _ => some .none
  | .rt d => guard flatD d
  | .rtl es => if flatD.go es = true then some (.list es) else none
  | _ => none) else none
def mCallL (n : Nat) (f : MF) (as : ML) : ML := fun s => (as s).bind fun ds => if ds.length = n then lstOf (f ds) else none
def mCallBL (n : Nat) (f : MF) (as : ML) : ML := fun s => (as s).bind fun ds => if ds.length = n then (lstOf (f ds)).bind okList else none
section
variable {CX : CXT} {k n : Nat} {x : Str} {f : MF} {E0' : XK}
theorem call_pe {t : TA} (c : Cal X.prog X.w X.K X.mg X.base CX C k x n f) (hr : Room k X.A) (hg : Gl X x) (hx : Passes CX X E) (ha : PA X (e :: es) t) (hdb : (x == ("__debug__" : Str)) = false := by decide)
    (he : starEach (e :: es) X.env = (false, eval e X.env) :: starEach es X.env := by rfl) (hpl : (backTo pos (starEach es X.env)).any (·.1) = false := by rfl) :
    PE X (.Call (.Name x p) (e :: es) [] pos) (tCall (spD X.K C n f) [] E t) := by
  obtain ⟨g, fd, ps, F, hm, hk, hb⟩ := c.ex
  exact pe_call F hr hg hm hk hb .nil hx ha hdb he hpl
theorem call_pe0 (c : Cal X.prog X.w X.K X.mg X.base CX C k x n f) (hr : Room k X.A) (hg : Gl X x) (hx : Passes CX X E) (hdb : (x == ("__debug__" : Str)) = false := by decide) :
    PE X (.Call (.Name x p) [] [] pos) (tCall (spD X.K C n f) [] E tNil) := by
  obtain ⟨g, fd, ps, F, hm, hk, hb⟩ := c.ex
  exact pe_call0 F hr hg hm hk hb .nil hx hdb
theorem rdCall {σ : St} {H : Hp} {Q : VK} (h : tD K (mCall n f ml) σ H Q) : tCall (spD K C n f) [] E (tAc K ml) σ H Q := by
  obtain ⟨H0, G, s, d, r, e, q⟩ := h
  obtain ⟨ds, ed, e⟩ := some_bind e
  obtain ⟨hn, e⟩ := if_some e
  refine ⟨H0, G, s, ds, r, ed, fun vs H1 e1 rv => ⟨_, ds, hn, by rw [List.append_nil]; exact rv, ?_⟩⟩
  have r1 := r.mono e1
  have up : ∀ a, (Cl G σ s a ∨ H1 a = none) → Cl G σ s a := fun a z => z.elim id fun h => ⟨r1.new a h, r1.own_not h⟩
  cases ho : f ds with
  | nx _ => rw [ho] at e; cases e; exact fun H2 e2 => q _ H2 (e1.trans e2) .non
  | rt d' => rw [ho] at e; cases e; exact fun v H2 e2 rv => q v H2 (e1.trans e2) (rv.wider up)
  | rtl es => rw [ho] at e; cases e; exact fun p xs H2 hp e2 h2 ra => q _ H2 (e1.trans e2) (.lst (.inl ⟨up p (.inr hp), .inl h2⟩) (ra.wider fun a z => up a z.1))
  | ex c fs => rw [ho] at e; cases e
  | bk _ => rw [ho] at e; cases e
  | ct _ => rw [ho] at e; cases e
  | no => rw [ho] at e; cases e
theorem rdCallL {σ : St} {H : Hp} {Q : VK} (h : tL K (mCallL n f ml) σ H Q) : tCall (spD K C n f) [] E (tAc K ml) σ H Q := by
  obtain ⟨H0, G, s, d, r, e, q⟩ := h
  obtain ⟨ds, ed, e⟩ := some_bind e
  obtain ⟨hn, e⟩ := if_some e
  refine ⟨H0, G, s, ds, r, ed, fun vs H1 e1 rv => ⟨_, ds, hn, by rw [List.append_nil]; exact rv, ?_⟩⟩
  have r1 := r.mono e1
  have up : ∀ a, (Cl G σ s a ∨ H1 a = none) → Cl G σ s a := fun a z => z.elim id fun h => ⟨r1.new a h, r1.own_not h⟩
  cases ho : f ds with
  | rtl es => rw [ho] at e; cases e; exact fun p xs H2 hp e2 h2 ra => q p xs H2 (e1.back hp) (e1.trans e2) h2 (ra.wider fun a z => ⟨up a z.1, z.2⟩)
  | _ => rw [ho] at e; cases e
theorem rdCallB {σ : St} {H : Hp} {Q : VK} (h : tD K (mCallB n f ml) σ H Q) : tCall (spD K C n f) [] E (tAb K ml) σ H Q := by
  obtain ⟨H0, G, s, d, r, e, q⟩ := h
  obtain ⟨ds, ed, e⟩ := some_bind e
  obtain ⟨hn, e⟩ := if_some e
  refine ⟨H0, G, s, ds, r, ed, fun vs H1 e1 rv => ⟨_, ds, hn, by rw [List.append_nil]; exact rv, ?_⟩⟩
  have r1 := r.mono e1
  cases ho : f ds with
  | nx _ => rw [ho] at e; cases e; exact fun H2 e2 => q _ H2 (e1.trans e2) .non
  | rt d' =>
    rw [ho] at e
    obtain ⟨hf, e⟩ := if_some e
    cases e
    exact fun v H2 e2 rv => q v H2 (e1.trans e2) (R.flat _ _ hf rv)
  | rtl es =>
    rw [ho] at e
    obtain ⟨hf, e⟩ := if_some e
    cases e
    exact fun p xs H2 hp e2 h2 ra => q _ H2 (e1.trans e2) (.lst (.inl ⟨⟨r1.new p hp, r1.own_not hp⟩, .inl h2⟩) (RA.flat _ _ hf ra))
  | ex c fs => rw [ho] at e; cases e
  | bk _ => rw [ho] at e; cases e
  | ct _ => rw [ho] at e; cases e
  | no => rw [ho] at e; cases e
theorem rdCallBL {σ : St} {H : Hp} {Q : VK} (h : tL K (mCallBL n f ml) σ H Q) : tCall (spD K C n f) [] E (tAb K ml) σ H Q := by
  obtain ⟨H0, G, s, d, r, e, q⟩ := h
  obtain ⟨ds, ed, e⟩ := some_bind e
  obtain ⟨hn, e⟩ := if_some e
  refine ⟨H0, G, s, ds, r, ed, fun vs H1 e1 rv => ⟨_, ds, hn, by rw [List.append_nil]; exact rv, ?_⟩⟩
  cases ho : f ds with
  | rtl es =>
    rw [ho] at e
    obtain ⟨hf, e⟩ := if_some (show (if flatD.go es = true then some es else none) = some d from e)
    cases e
    exact fun p xs H2 hp e2 h2 ra => q p xs H2 (e1.back hp) (e1.trans e2) h2 (RA.flat _ _ hf ra)
  | _ => rw [ho] at e; cases e
end
end
end DD

namespace DD
open PySem L2
section
variable {K : Fg} {X : Cx} {C : XC} {E : XK} {H0 H H' H1 H2 : Hp} {G B : Addr → Prop} {σ : St} {s : S} {tg e a b : Expr} {m ma mb : M} {ml : ML} {pos p p2 : Pos} {es : List Expr}
/-! ### built-in functions -/
def CallS (K : Fg) (r : List V → Hp → VK → Prop) (f : List D → Option D) : Prop := ∀ (H : Hp) (vs : List V) (ds : List D) (z : D), RA K (fun _ => True) H vs ds → f ds = some z → ∃ v, R K (fun _ => False) H v z ∧ ∀ Q : VK, Q v H → r vs H Q
def mBi (f : List D → Option D) (as : ML) : M := fun s => (as s).bind f
theorem rdBi {r : List V → Hp → VK → Prop} {f : List D → Option D} (hs : CallS K r f) {σ : St} {H : Hp} {Q : VK} (h : tD K (mBi f ml) σ H Q) : tCB r (tAb K ml) σ H Q := by
  obtain ⟨H0, G, s, d, rs, e, q⟩ := h
  obtain ⟨ds, ed, ez⟩ := some_bind e
  refine ⟨H0, G, s, ds, rs, ed, fun vs H1 e1 rv => ?_⟩
  obtain ⟨w, hw, k⟩ := hs H1 vs ds d rv ez
  exact k Q (q w H1 e1 (hw.wider fun _ z => z.elim))
theorem bootB_len : bootBuiltins ("len" : Str) = some (.builtin "len") := PySem.boot_len
def fLen : List D → Option D
  | [.list ds] => some (.int ds.length)
  | [.tuple ds] => some (.int ds.length)
  | [.str z] => if z.length ≤ 100000 then some (.int z.length) else none
  | _ => none
theorem RA.one {d : D} {vs : List V} (h : RA K B H vs [d]) : ∃ v, vs = [v] ∧ R K B H v d := by
  cases h with
  | cons h1 h2 => cases h2; exact ⟨_, rfl, h1⟩
theorem RA.two {d e : D} {vs : List V} (h : RA K B H vs [d, e]) : ∃ v u, vs = [v, u] ∧ R K B H v d ∧ R K B H u e := by
  cases h with
  | cons h1 h2 =>
    cases h2 with
    | cons h2 h3 => cases h3; exact ⟨_, _, rfl, h1, h2⟩
def rLenD (K : Fg) : List V → Hp → VK → Prop := fun xs H Q => (∃ p ys, xs = [.ref p] ∧ (SqL K H p ys ∨ SqT K H p ys) ∧ Q (.int ys.length) H) ∨ (∃ z, xs = [.str z] ∧ z.length ≤ sizeLine ∧ Q (.int z.length) H)
theorem cs_len : CallS K (rLenD K) fLen := by
  intro H vs ds z rv hz
  unfold fLen at hz
  split at hz
  · cases hz
    obtain ⟨v, rfl, r⟩ := rv.one
    cases r with
    | lst hr ha => exact ⟨_, .int _, fun Q q => .inl ⟨_, _, rfl, .inl hr.sql, by rw [ha.length]; exact q⟩⟩
  · cases hz
    obtain ⟨v, rfl, r⟩ := rv.one
    cases r with
    | tup hr ha => exact ⟨_, .int _, fun Q q => .inl ⟨_, _, rfl, .inr hr.sqt, by rw [ha.length]; exact q⟩⟩
  · obtain ⟨hl, hz⟩ := if_some hz
    cases hz
    obtain ⟨v, rfl, r⟩ := rv.one
    cases r
    exact ⟨_, .int _, fun Q q => .inr ⟨_, rfl, sz_le hl, q⟩⟩
  · cases hz
theorem x_len (hK : X.K = K) (hg : Gl X "len") (hm : X.mg "len" = none) (ha : XAb K X [e] ml) (he : starEach [e] X.env = (false, eval e X.env) :: starEach [] X.env := by rfl) (hpl : (backTo pos (starEach [] X.env)).any (·.1) = false := by rfl) :
    XE K X (.Call (.Name "len" p) [e] [] pos) (mBi fLen ml) := by
  subst hK
  exact pe_imp (pe_callB (call_len_seq.or call_len_str) hg hm PySem.boot_len ha (by decide) (by decide) he hpl) fun _ _ _ h => rdBi cs_len h
def fAbs : List D → Option D
  | [.int i] => some (.int (if i < 0 then -i else i))
  | _ => none
theorem x_abs (hg : Gl X "abs") (hm : X.mg "abs" = none) (ha : XAb K X [e] ml) (he : starEach [e] X.env = (false, eval e X.env) :: starEach [] X.env := by rfl) (hpl : (backTo pos (starEach [] X.env)).any (·.1) = false := by rfl) :
    XE K X (.Call (.Name "abs" p) [e] [] pos) (mBi fAbs ml) := by
  refine pe_imp (pe_callB call_abs hg hm (by decide +kernel) ha (by decide) (by decide) he hpl) fun _ _ _ h => rdBi ?_ h
  intro H vs ds z rv hz
  unfold fAbs at hz
  split at hz
  · cases hz
    obtain ⟨v, rfl, r⟩ := rv.one
    cases r
    exact ⟨_, .int _, fun Q q => ⟨_, rfl, q⟩⟩
  · cases hz
def fMax2 : List D → Option D
  | [.int i, .int j] => some (.int (if j > i then j else i))
  | _ => none
def fMin2 : List D → Option D
  | [.int i, .int j] => some (.int (if j < i then j else i))
  | _ => none
theorem x_max2 (hc : X.calm = true) (hg : Gl X "max") (hm : X.mg "max" = none) (ha : XAb K X [a, b] ml) (he : starEach [a, b] X.env = (false, eval a X.env) :: starEach [b] X.env := by rfl) (hpl : (backTo pos (starEach [b] X.env)).any (·.1) = false := by rfl) :
    XE K X (.Call (.Name "max" p) [a, b] [] pos) (mBi fMax2 ml) := by
  refine pe_imp (pe_callB (call_max2 hc) hg hm (by decide +kernel) ha (by decide) (by decide) he hpl) fun _ _ _ h => rdBi ?_ h
  intro H vs ds z rv hz
  unfold fMax2 at hz
  split at hz
  · cases hz
    obtain ⟨v, u, rfl, r1, r2⟩ := rv.two
    cases r1; cases r2
    exact ⟨_, .int _, fun Q q => ⟨_, _, rfl, q⟩⟩
  · cases hz
theorem x_min2 (hc : X.calm = true) (hg : Gl X "min") (hm : X.mg "min" = none) (ha : XAb K X [a, b] ml) (he : starEach [a, b] X.env = (false, eval a X.env) :: starEach [b] X.env := by rfl) (hpl : (backTo pos (starEach [b] X.env)).any (·.1) = false := by rfl) :
    XE K X (.Call (.Name "min" p) [a, b] [] pos) (mBi fMin2 ml) := by
  refine pe_imp (pe_callB (call_min2 hc) hg hm (by decide +kernel) ha (by decide) (by decide) he hpl) fun _ _ _ h => rdBi ?_ h
  intro H vs ds z rv hz
  unfold fMin2 at hz
  split at hz
  · cases hz
    obtain ⟨v, u, rfl, r1, r2⟩ := rv.two
    cases r1; cases r2
    exact ⟨_, .int _, fun Q q => ⟨_, _, rfl, q⟩⟩
  · cases hz
def fInt1 : List D → Option D
  | [.int i] => some (.int i)
  | [.bool b] => some (.int (if b then 1 else 0))
  | _ => none
theorem x_int1 (hg : Gl X "int") (hm : X.mg "int" = none) (ha : XAb K X [e] ml) (he : starEach [e] X.env = (false, eval e X.env) :: starEach [] X.env := by rfl) (hpl : (backTo pos (starEach [] X.env)).any (·.1) = false := by rfl) :
    XE K X (.Call (.Name "int" p) [e] [] pos) (mBi fInt1 ml) := by
  refine pe_imp (pe_callTy call_int1 hg hm (by decide +kernel) ha (by decide) (by decide) he hpl) fun _ _ _ h => rdBi ?_ h
  intro H vs ds z rv hz
  unfold fInt1 at hz
  split at hz
  · cases hz
    obtain ⟨v, rfl, r⟩ := rv.one
    cases r
    exact ⟨_, .int _, fun Q q => .inl ⟨_, rfl, q⟩⟩
  · cases hz
    obtain ⟨v, rfl, r⟩ := rv.one
    cases r
    exact ⟨_, .int _, fun Q q => .inr ⟨_, rfl, q⟩⟩
  · cases hz
/-- list(x), tuple(x) of a list or a tuple -/
def mListOf (as : ML) : ML := fun s => (as s).bind fun ds => match ds with
  | [d] => items d
  | _ => none
theorem l_listOf (hK : X.K = K) (hg : Gl X "list") (hm : X.mg "list" = none) (ha : XB K X e m) (he : starEach [e] X.env = (false, eval e X.env) :: starEach [] X.env := by rfl) (hpl : (backTo pos (starEach [] X.env)).any (·.1) = false := by rfl) :
    XL K X (.Call (.Name "list" p) [e] [] pos) (iSeq m) := by
  subst hK
  refine pe_imp (pe_callTy call_list_of hg hm (by decide +kernel) (pa_cons ha pa_nil he) (by decide) (by decide) he hpl) fun σ H Q ⟨H0, G, s, d, rs, e, q⟩ => ?_
  obtain ⟨x, ex, e⟩ := some_bind e
  refine ⟨H0, G, s, x, rs, ex, fun v H1 e1 rv => ?_⟩
  unfold items at e
  split at e
  · cases e
    obtain ⟨p, xs, rfl, hr, ra⟩ := RB.items rs e1 rv
    exact ⟨p, xs, rfl, .inl hr, fun o ho => q o _ _ (e1.back ho) (e1.trans (Ex.new ho)) upd_same ((ra.free ho).ex (Ex.new ho))⟩
  · cases e
    obtain ⟨p, xs, rfl, hr, ra⟩ := RB.itemsT rv
    exact ⟨p, xs, rfl, .inr hr.sqt, fun o ho => q o _ _ (e1.back ho) (e1.trans (Ex.new ho)) upd_same ((ra.free ho).ex (Ex.new ho))⟩
  · cases e
def mTupOf (m : M) : M := fun s => (m s).bind fun d => (items d).map .tuple
def rTupF (K : Fg) : List V → Hp → VK → Prop := fun xs H Q => ∃ p ys, xs = [.ref p] ∧ ((SqL K H p ys ∧ ∀ l o, H l = none → o.cls = .type "tuple" → o.dict = none → Q (.ref l) (upd H l (.frz o (.tup ys)))) ∨ (SqT K H p ys ∧ Q (.ref p) H))
theorem call_tupF : CallR X (.type "tuple") (rTupF X.K) := fun pins s σ H xs us Q I r h => by
  obtain ⟨p, ys, rfl, h⟩ := h
  obtain ⟨u, rfl, rx⟩ := vals1 r
  cases rx
  rcases h with ⟨hq, q⟩ | ⟨hq, q⟩
  · obtain ⟨its, r', pl, hz⟩ := I.list hq
    have n1 := r'.length
    refine PySem.call_tuple_list pl.isList (fun h' kp => ?_) (by rw [List.size_toArray]; omega)
    have J : Inv X pins σ H { s with heap := h' } := I.kept (t' := s.toks) kp
    exact ⟨.ref _, _, tup_laid (t' := s.toks) J r' hz, rfl, q _ _ J.hok.free0 rfl rfl⟩
  · obtain ⟨its, r', pl, hz⟩ := I.tuple hq
    exact PySem.call_tuple_same pl ⟨.ref p, H, I, rfl, q⟩
theorem x_tupOf (hK : X.K = K) (hg : Gl X "tuple") (hm : X.mg "tuple" = none) (ha : XB K X e m) (he : starEach [e] X.env = (false, eval e X.env) :: starEach [] X.env := by rfl) (hpl : (backTo pos (starEach [] X.env)).any (·.1) = false := by rfl) :
    XE K X (.Call (.Name "tuple" p) [e] [] pos) (mTupOf m) := by
  subst hK
  refine pe_imp (pe_callTy call_tupF hg hm (by decide +kernel) (pa_cons ha pa_nil he) (by decide) (by decide) he hpl) fun σ H Q ⟨H0, G, s, d, rs, e, q⟩ => ?_
  obtain ⟨x, ex, e⟩ := some_bind e
  obtain ⟨ds, ed, rfl⟩ := Option.map_eq_some_iff.mp e
  refine ⟨H0, G, s, x, rs, ex, fun v H1 e1 rv => ?_⟩
  unfold items at ed
  split at ed
  · cases ed
    obtain ⟨p, xs, rfl, hr, ra⟩ := RB.items rs e1 rv
    exact ⟨p, xs, rfl, .inl ⟨hr, fun l o ho hc hd => q _ _ (e1.trans (Ex.new ho)) (.tup (.inl ⟨o, upd_same, hc, hd⟩) (ra.ex (Ex.new ho)))⟩⟩
  · cases ed
    obtain ⟨p, xs, rfl, hr, ra⟩ := RB.itemsT rv
    exact ⟨p, xs, rfl, .inr ⟨hr.sqt, q _ H1 e1 (.tup hr ra)⟩⟩
  · cases ed

/-! ### isinstance against a built-in type -/
def tyName : D → String
  | .none => "NoneType"
  | .bool _ => "bool"
  | .int _ => "int"
  | .str _ => "str"
  | .list _ => "list"
  | .tuple _ => "tuple"
  | .dict _ => "dict"
theorem R.tyx {v : V} {d : D} (h : R K B H v d) : TyX K H v (.type (tyName d)) := by
  cases h with
  | non => exact .base .non
  | bl b => exact .base (.bl b)
  | int i => exact .base (.int i)
  | str q => exact .base (.str _)
  | lst hr ha =>
    rcases hr with ⟨_, h | ⟨o, h⟩⟩ | ⟨o, its, n, hk, hc, _⟩
    · exact .base (.lst h)
    · exact .base (.frz h)
    · exact .kList hk hc
  | tup hr ha =>
    rcases hr with ⟨o, h, _⟩ | ⟨o, its, n, hk, hc, _⟩
    · exact .fTuple h
    · exact .kTuple hk hc
/-- which data is of a type: the table tells it -/
def IsTab (T : String) (f : D → Bool) : Prop := ∀ d, (∀ kvs, d ≠ .dict kvs) → kitB (tyName d) T = some (f d)
def isInt : D → Bool
  | .int _ => true
  | .bool _ => true
  | _ => false
def isBool : D → Bool
  | .bool _ => true
  | _ => false
def isStr : D → Bool
  | .str _ => true
  | _ => false
def isTuple : D → Bool
  | .tuple _ => true
  | _ => false
def isList : D → Bool
  | .list _ => true
  | _ => false
theorem tab_int : IsTab "int" isInt := fun d hd => match d, hd with
  | .none, _ => (by decide +kernel : kitB "NoneType" "int" = some false)
  | .bool _, _ => (by decide +kernel : kitB "bool" "int" = some true)
  | .int _, _ => (by decide +kernel : kitB "int" "int" = some true)
  | .str _, _ => (by decide +kernel : kitB "str" "int" = some false)
  | .list _, _ => (by decide +kernel : kitB "list" "int" = some false)
  | .tuple _, _ => (by decide +kernel : kitB "tuple" "int" = some false)
  | .dict kvs, hd => (hd kvs rfl).elim
theorem tab_bool : IsTab "bool" isBool := fun d hd => match d, hd with
  | .none, _ => (by decide +kernel : kitB "NoneType" "bool" = some false)
  | .bool _, _ => (by decide +kernel : kitB "bool" "bool" = some true)
  | .int _, _ => (by decide +kernel : kitB "int" "bool" = some false)
  | .str _, _ => (by decide +kernel : kitB "str" "bool" = some false)
  | .list _, _ => (by decide +kernel : kitB "list" "bool" = some false)
  | .tuple _, _ => (by decide +kernel : kitB "tuple" "bool" = some false)
  | .dict kvs, hd => (hd kvs rfl).elim
theorem tab_str : IsTab "str" isStr := fun d hd => match d, hd with
  | .none, _ => (by decide +kernel : kitB "NoneType" "str" = some false)
  | .bool _, _ => (by decide +kernel : kitB "bool" "str" = some false)
  | .int _, _ => (by decide +kernel : kitB "int" "str" = some false)
  | .str _, _ => (by decide +kernel : kitB "str" "str" = some true)
  | .list _, _ => (by decide +kernel : kitB "list" "str" = some false)
  | .tuple _, _ => (by decide +kernel : kitB "tuple" "str" = some false)
  | .dict kvs, hd => (hd kvs rfl).elim
theorem tab_tuple : IsTab "tuple" isTuple := fun d hd => match d, hd with
  | .none, _ => (by decide +kernel : kitB "NoneType" "tuple" = some false)
  | .bool _, _ => (by decide +kernel : kitB "bool" "tuple" = some false)
  | .int _, _ => (by decide +kernel : kitB "int" "tuple" = some false)
  | .str _, _ => (by decide +kernel : kitB "str" "tuple" = some false)
  | .list _, _ => (by decide +kernel : kitB "list" "tuple" = some false)
  | .tuple _, _ => (by decide +kernel : kitB "tuple" "tuple" = some true)
  | .dict kvs, hd => (hd kvs rfl).elim
theorem tab_list : IsTab "list" isList := fun d hd => match d, hd with
  | .none, _ => (by decide +kernel : kitB "NoneType" "list" = some false)
  | .bool _, _ => (by decide +kernel : kitB "bool" "list" = some false)
  | .int _, _ => (by decide +kernel : kitB "int" "list" = some false)
  | .str _, _ => (by decide +kernel : kitB "str" "list" = some false)
  | .list _, _ => (by decide +kernel : kitB "list" "list" = some true)
  | .tuple _, _ => (by decide +kernel : kitB "tuple" "list" = some false)
  | .dict kvs, hd => (hd kvs rfl).elim
theorem R.nodict {v : V} {d : D} (h : R K B H v d) : ∀ kvs, d ≠ .dict kvs := fun kvs e => by subst e; cases h
def mIsi (f : D → Bool) (m : M) : M := fun s => (m s).map fun d => .bool (f d)
theorem x_isi {T : String} {f : D → Bool} (ht : IsTab T f) (hK : X.K = K) (hg : Gl X "isinstance") (hm : X.mg "isinstance" = none) (ha : XB K X a m) (hb : PE X b (tC (.ty T))) (he : starEach [a, b] X.env = (false, eval a X.env) :: starEach [b] X.env := by rfl) (hpl : (backTo pos (starEach [b] X.env)).any (·.1) = false := by rfl) (hb2 : starEach [b] X.env = (false, eval b X.env) :: starEach [] X.env := by rfl) :
    XE K X (.Call (.Name "isinstance" p) [a, b] [] pos) (mIsi f m) := by
  subst hK
  refine pe_imp (pe_callB call_isi hg hm (by decide +kernel) (pa_cons ha (pa_cons hb pa_nil hb2) he) (by decide) (by decide) he hpl) fun σ H Q ⟨H0, G, s, d, rs, e, q⟩ => ?_
  obtain ⟨x, ex, rfl⟩ := Option.map_eq_some_iff.mp e
  refine ⟨H0, G, s, x, rs, ex, fun v H1 e1 rv => ?_⟩
  have ra := RB.any rs e1 rv
  exact ⟨v, .ty T, .type (tyName x), .type T, f x, rfl, .ty T, ra.tyx, kit_ty (ht x ra.nodict), q _ H1 e1 (.bl _)⟩
theorem ty_int (hg : Gl X "int") (hm : X.mg "int" = none) : PE X (.Name "int" p) (tC (.ty "int")) := pe_bltn hg hm (by decide +kernel) (show RelV (.ty "int") (.type "int") from rfl)
theorem ty_bool (hg : Gl X "bool") (hm : X.mg "bool" = none) : PE X (.Name "bool" p) (tC (.ty "bool")) := pe_bltn hg hm (by decide +kernel) (show RelV (.ty "bool") (.type "bool") from rfl)
theorem ty_str (hg : Gl X "str") (hm : X.mg "str" = none) : PE X (.Name "str" p) (tC (.ty "str")) := pe_bltn hg hm (by decide +kernel) (show RelV (.ty "str") (.type "str") from rfl)
theorem ty_tuple (hg : Gl X "tuple") (hm : X.mg "tuple" = none) : PE X (.Name "tuple" p) (tC (.ty "tuple")) := pe_bltn hg hm (by decide +kernel) (show RelV (.ty "tuple") (.type "tuple") from rfl)
theorem ty_list (hg : Gl X "list") (hm : X.mg "list" = none) : PE X (.Name "list" p) (tC (.ty "list")) := pe_bltn hg hm (by decide +kernel) (show RelV (.ty "list") (.type "list") from rfl)
end

/-! ### a def's promise from its body -/
def startS (n : Nat) (ds : List D) : S := ds.map (fun d => some (.sh d)) ++ List.replicate (n - ds.length) none
def mFn (n : Nat) (body : MS) : MF := fun ds => body (startS n ds)
section
variable {P : Program} {w : World} {K : Fg} {mg : Str → Option Value} {base : Heap} {C : XC} {CX : CXT}
theorem start_no {B : Addr → Prop} {H : Hp} {n : Nat} {ds : List D} {vs : List V} (h : RA K B H vs ds) (a : Addr) {N : List Str} : ¬ Own (start N vs) (startS n ds) a := fun ⟨i, es, h1, _⟩ => by
  unfold startS at h1
  rw [List.getElem?_append] at h1
  split at h1
  · rw [List.getElem?_map] at h1
    cases q : ds[i]? with
    | none => rw [q] at h1; cases h1
    | some d => rw [q] at h1; cases h1
  · rw [List.getElem?_replicate] at h1
    split at h1 <;> cases h1
theorem rs_start {B : Addr → Prop} {H : Hp} {N : List Str} {ds : List D} {vs : List V} (h : RA K B H vs ds) (hl : ds.length ≤ N.length) : RS K H (fun a => B a ∨ H a = none) (start N vs) H (startS N.length ds) := by
  have no := fun a => start_no (n := N.length) (N := N) h a
  refine ⟨?_, Ex.refl H, fun a h => .inr h, fun i d e => ?_, fun i es e => ?_, fun i j di dj a e => ?_, fun i ks e => ?_⟩
  · unfold L2.start startS
    rw [List.length_append, List.length_append, List.length_map, List.length_map, h.length, List.length_replicate, List.length_replicate]
  · unfold startS at e
    rw [List.getElem?_append] at e
    split at e
    · rename_i hi
      rw [List.getElem?_map] at e
      cases q : ds[i]? with
      | none => rw [q] at e; cases e
      | some d' =>
        rw [q] at e; cases e
        obtain ⟨v, hv, r⟩ := h.get q
        refine ⟨v, ?_, r.wider fun a z => ⟨.inl z, no a⟩⟩
        unfold L2.start
        rw [List.getElem?_append_left (by rw [List.length_map, h.length]; simpa using hi), List.getElem?_map, hv]
        rfl
    · rw [List.getElem?_replicate] at e
      split at e <;> cases e
  · unfold startS at e
    rw [List.getElem?_append] at e
    split at e
    · rw [List.getElem?_map] at e
      cases q : ds[i]? with
      | none => rw [q] at e; cases e
      | some d => rw [q] at e; cases e
    · rw [List.getElem?_replicate] at e
      split at e <;> cases e
  · unfold startS at e
    rw [List.getElem?_append] at e
    split at e
    · rw [List.getElem?_map] at e
      cases q : ds[i]? with
      | none => rw [q] at e; cases e
      | some d => rw [q] at e; cases e
    · rw [List.getElem?_replicate] at e
      split at e <;> cases e
  · unfold startS at e
    rw [List.getElem?_append] at e
    split at e
    · rw [List.getElem?_map] at e
      cases q : ds[i]? with
      | none => rw [q] at e; cases e
      | some d => rw [q] at e; cases e
    · rw [List.getElem?_replicate] at e
      split at e <;> cases e
theorem fn_data {x qual : Str} {st : Stmt} {f : Addr} {fd : FuncData} {N ps : List Str} {k n : Nat} {body : MS} (F : L2.Fun K x qual st f fd) (Sc : FnScope N ps (defScope st)) (hn : ps.length = n) (hN : n ≤ N.length)
    (hb : ∀ (cdv : Value) (A : Around) (outer : List Env) (s : Shared) (H : Hp) (E : XK), Room k (A.deeper (PyProof.Rows.envOfC qual (defScope st) s.heap.objs.size f cdv)) →
      XSs K C E (cxOf CX0 P w K mg base N qual (defScope st) f cdv A outer s H E).nox (defBody st) body) :
    FnOk P w K mg base CX0 (k + 1) f fd ps (spD K C n (mFn N.length body)) := by
  refine F.ok Sc (fun vs H Q E ⟨B, ds, h1, h2, _⟩ => by rw [h2.length, h1, hn]) (fun cdv A outer s H vs Q E hr ⟨B, ds, h1, h2, h3⟩ => ⟨_, hb cdv A outer s H E hr, ?_⟩)
  refine ⟨H, fun a => B a ∨ H a = none, startS N.length ds, rs_start h2 (by omega), ?_⟩
  unfold mFn at h3
  cases ho : body (startS N.length ds) with
  | nx s' => rw [ho] at h3; exact fun σ' H' r t => h3 H' r.ex
  | rt d => rw [ho] at h3; exact fun v H' e r => h3 v H' e r
  | rtl es => rw [ho] at h3; exact fun p xs H' hp e h r => h3 p xs H' hp e h r
  | ex c fs => rw [ho] at h3; exact fun cls d H' e q => h3 cls d H' e q
  | bk s' => rw [ho] at h3; exact h3.elim
  | ct s' => rw [ho] at h3; exact h3.elim
  | no => rw [ho] at h3; exact h3.elim
end
end DD

namespace DD
open PySem L2
section
variable {K : Fg} {X : Cx} {C : XC} {E : XK} {H0 H H' H1 H2 : Hp} {G B : Addr → Prop} {σ : St} {s : S} {tg e a b : Expr} {m ma mb : M} {ml : ML} {pos p p2 : Pos} {es : List Expr}
/-! ### several targets -/
abbrev MGs := List D → S → Option S
def gsD (K : Fg) (ts : List Nat) (g : MGs) : TGs := fun vs σ H Q => ∃ H0 G s ds s', RS K H0 G σ H s ∧ RA K (Cl G σ s) H vs ds ∧ g ds s = some s' ∧ ∀ σ', RS K H0 G σ' H s' → Tr σ s H σ' s' H → But ts σ σ' → But ts s s' → Q σ' H
abbrev XGs (K : Fg) (X : Cx) (tgs : List Expr) (ts : List Nat) (g : MGs) := PGs X tgs (gsD K ts g)
def gsNil : MGs := fun ds s => match ds with
  | [] => some s
  | _ => none
def gsCons (g : MG) (r : MGs) : MGs := fun ds s => match ds with
  | d :: ds => (g d s).bind fun s1 => r ds s1
  | [] => none
theorem pgs_imp {tgs : List Expr} {t u : TGs} (h : PGs X tgs t) (i : ∀ v σ H Q, u v σ H Q → t v σ H Q) : PGs X tgs u := ⟨fun pins s σ H v w Q I r q => h.run pins s σ H v w Q I r (i v σ H Q q)⟩
theorem gs_nil : XGs K X [] [] gsNil := pgs_imp pgs_nil fun vs σ H Q ⟨H0, G, s, ds, s', r, rv, e, q⟩ => by
  unfold gsNil at e
  split at e
  · cases e
    cases rv
    exact ⟨rfl, q σ r (Tr.refl _ _ _) (But.refl _ _) (But.refl _ _)⟩
  · cases e
theorem gs_cons {ts us : List Nat} {g : MG} {r : MGs} (h1 : XG K X e ts g) (h2 : XGs K X es us r) (hs : (assignEach (e :: es) X.env).map (·.2) = assign e X.env :: (assignEach es X.env).map (·.2) := by rfl) : XGs K X (e :: es) (ts ++ us) (gsCons g r) :=
  pgs_imp (pgs_cons h1 h2 hs) fun vs σ H Q ⟨H0, G, s, ds, s', rs, rv, e, q⟩ => by
  unfold gsCons at e
  split at e
  · obtain ⟨s1, e1, e2⟩ := some_bind e
    cases rv with
    | cons r1 r2 =>
      refine ⟨_, _, rfl, H0, G, s, _, s1, rs, r1, e1, fun σ1 rs1 t1 b1 c1 => ⟨H0, G, s1, _, s', rs1, ?_, e2, fun σ2 rs2 t2 b2 c2 => q σ2 rs2 (t1.trans t2) (b1.trans b2) (c1.trans c2)⟩⟩
      exact (RA.there r2).wider fun a ⟨⟨g, n⟩, ne⟩ => ⟨g, by
        cases hH : H a with
        | none => exact (ne hH).elim
        | some o => exact (t1 a o hH n).2⟩
  · cases e
/-- (a, b, ..) = a list or a tuple -/
def gSeq (n : Nat) (g : MGs) : MG := fun d s => (items d).bind fun ds => if ds.length = n then g ds s else none
theorem g_seq {ts : List Nat} {k n : Nat} {g : MGs} (hK : X.K = K) (hc : X.calm = true) (h : XGs K X es ts g) (hn : (assignEach es X.env).length = n := by rfl) (hst : (assignEach es X.env).findIdx? (·.1) = none := by rfl) : XG K X (.Tuple es k pos) ts (gSeq n g) := by
  subst hK
  refine ⟨fun pins s σ H v u Q I r ⟨H0, G, sd, d, s', rs, rv, e0, q⟩ => ?_⟩
  obtain ⟨ds, ed, e1⟩ := some_bind e0
  obtain ⟨hl, e2⟩ := if_some e1
  unfold items at ed
  split at ed
  · cases ed
    cases rv with
    | lst hr ha =>
      exact (pg_unl hc h hn hst).run pins s σ H _ u Q I r ⟨_, _, rfl, hr.sql, ha.length.trans hl, H0, G, sd, _, s', rs, ha, e2, q⟩
  · cases ed
    cases rv with
    | tup hr ha =>
      exact (pg_tup hc h hn hst).run pins s σ H _ u Q I r ⟨_, _, rfl, hr.sqt, ha.length.trans hl, H0, G, sd, _, s', rs, ha, e2, q⟩
  · cases ed

/-! ### t.index(x), xs.index(x) -/
def idxOf (d : D) : List D → Option Nat
  | [] => none
  | z :: zs => if PyData.eqv z d = true then some 0 else (idxOf d zs).map (· + 1)
theorem idxOf_some {d : D} : ∀ {ds : List D} {j : Nat}, idxOf d ds = some j → ∃ z, ds[j]? = some z ∧ PyData.eqv z d = true ∧ ∀ (i : Nat) z', i < j → ds[i]? = some z' → PyData.eqv z' d = false
  | [], _, h => by cases h
  | z :: zs, j, h => by
    unfold idxOf at h
    by_cases c : PyData.eqv z d = true
    · rw [if_pos c] at h; cases h
      exact ⟨z, rfl, c, fun i z' hi => absurd hi (Nat.not_lt_zero _)⟩
    · rw [if_neg c] at h
      obtain ⟨i, hi, rfl⟩ := Option.map_eq_some_iff.mp h
      obtain ⟨z', h1, h2, h3⟩ := idxOf_some hi
      refine ⟨z', h1, h2, fun k z'' hk e => ?_⟩
      cases k with
      | zero =>
        have : z = z'' := by simpa using e
        subst this
        simpa using c
      | succ k => exact h3 k z'' (by omega) (by simpa using e)
def fIndex : D → D → Option D := fun c d => match c with
  | .tuple ds => if min (PyData.depthAll ds) d.depth ≤ 60 then (idxOf d ds).map fun j => .int (j : Nat) else none
  | _ => none
def rTix (K : Fg) : V → List V → Hp → VK → Prop := fun x xs H Q => ∃ (p : Addr) (ys : List V) (y : V) (ds : List D) (d : D) (j : Nat), x = .ref p ∧ xs = [y] ∧ SqT K H p ys ∧ DpAll K H ys ds ∧ Dp K H y d ∧ PyData.canLayAll0 ds = true ∧ d.canLay0 = true ∧ min (PyData.depthAll ds) d.depth ≤ 60 ∧ idxOf d ds = some j ∧ Q (.int (j : Nat)) H
theorem mt_tix {k : Nat} (hr : Room k X.A) : MtR X "tuple.index" (rTix X.K) := by
  intro pins s σ H x xs v us Q I rx rxs h
  obtain ⟨p, ys, y, ds, d, j, rfl, rfl, hq, ha, hy, l1, l2, hm, hj, q⟩ := h
  obtain ⟨z, hz, hzd, hno⟩ := idxOf_some hj
  cases rx
  obtain ⟨u, rfl, ru⟩ := vals1 rxs
  obtain ⟨bs, rd⟩ := Dp.reads I d y u hy ru
  obtain ⟨its, rv, ⟨ob, ho, hc, n, hdt⟩, _⟩ := I.tuple hq
  obtain ⟨cls, dd, dt, sl⟩ := ob
  simp only at hc hdt
  subst hc
  subst hdt
  obtain ⟨as, ra⟩ := Dp.readsAll I ds _ its ha rv
  have eqs := SeqAt.readsAll_map ds its as l1 ra
  have at_ : ∀ (i : Nat) (hi : i < its.toArray.size), ds[i]? = some (SeqAt.readOf s.heap its.toArray[i]) := fun i hi => by
    have hi' : i < its.length := by simpa using hi
    rw [← eqs, List.getElem?_map, List.getElem?_eq_getElem hi']
    simp
  have hsz : j < its.toArray.size := by
    have h1 := (List.getElem?_eq_some_iff.mp hz).1
    rw [← eqs] at h1
    simpa using h1
  have hroom : X.A.units + 1 + min (PyData.depthAll ds) d.depth < cLine := by have := hr.units; omega
  refine call_meets PySem.F.slot_tuple_index ⟨_, ho, rfl⟩ PySem.F.entry_tuple_index (PySem.F.args_tuple_index_2 _ _)
    (TI.tuple_indexAt p its.toArray n dd sl u (fun w => PyData.eqv (SeqAt.readOf s.heap w) d) j hsz ?_ ?_)
    ⟨ho, SeqAt.items_eqAt (vs := its.toArray) (show ReadsAll s.heap its.toArray.toList ds as from ra) rd l1 l2 hroom, ⟨.int (j : Nat), H, I.tok _, ⟨_, rfl⟩, q⟩⟩
  · have e := at_ j hsz
    rw [hz] at e
    show PyData.eqv (SeqAt.readOf s.heap its.toArray[j]) d = true
    rw [← Option.some.inj e]; exact hzd
  · intro i hi hij
    exact hno i _ hij (at_ i hi)
/-- t.m(e), t a tuple -/
def tTM (K : Fg) (r : V → List V → Hp → VK → Prop) (to : TE) (te : TE) : TE := fun σ H Q => to σ H fun x H1 => (∃ p xs, x = .ref p ∧ TupX K H1 p xs) ∧ te σ H1 fun y H2 => r x [y] H2 Q
theorem tupx_obj {pins : List (Addr × Obj)} {σ : St} {s : Shared} {p : Addr} {xs : List V} (I : Inv X pins σ H s) (h : TupX X.K H p xs) : ∃ ob : Obj, s.heap.get? p = some ob ∧ ob.cls = .type "tuple" ∧ ob.dict = none := by
  rcases h with ⟨ob, h, hc, hd⟩ | ⟨ob, its, n, hk, hc, hd, _⟩
  · exact ⟨ob, (I.hok p _ h).1, hc, hd⟩
  · exact ⟨ob, I.kIn p ob hk, hc, hd⟩
theorem pe_tm {o : Expr} {name : Str} {id : String} {apos cpos : Pos} {r : V → List V → Hp → VK → Prop} {to te : TE} (pa : PlainAttrs "tuple") (slot : Slot "tuple" name id) (hty : typeOf (.builtin id) = pure (.type "method_descriptor")) (hm : MtR X id r) (ho : PE X o to) (ha : PE X e te)
    (hb : attributeBase o name X.env (eval o X.env) = eval o X.env := by rfl)
    (hf : ((backTo cpos (starEach [e] X.env)).all (fun x => !x.1) && (backToKw cpos (keywordEach [] X.env)).all (fun x => x.1.isSome) && decide ([e].length + ([] : List Keyword).length + (if ([] : List Keyword).isEmpty then 0 else 1) < 30)) = true := by rfl)
    (hl : (apos.endLine == cpos.line) = true := by rfl) (hs : starEach [e] X.env = (false, eval e X.env) :: starEach [] X.env := by rfl) (hp : (backTo cpos (starEach [] X.env)).any (·.1) = false := by rfl) :
    PE X (.Call (.Attribute o name apos) [e] [] cpos) (tTM X.K r to te) := ⟨fun pins s σ H Q I h => by
  refine wpAny_Call_method_late hb hf hl rfl (thn (ho.run pins s σ H _ I h) fun v s1 hh => ?_)
  obtain ⟨x, H1, I1, r1, ⟨p, xs, rfl, ht⟩, q1⟩ := hh
  cases r1
  obtain ⟨ob, g1, g2, g3⟩ := tupx_obj I1 ht
  refine ⟨"tuple", id, pa, slot, hty, ⟨ob, g1, g2⟩, fun b hb' => by cases hb'; exact ⟨ob, g1, g3⟩, ?_⟩
  have run := (pa_cons ha pa_nil hs).run cpos pins s1 σ H1 (fun ys H2 => r (.ref p) ys H2 Q) I1 q1
  rw [hs] at run ⊢
  refine Calls.callWith_builtin (id := id) (show (false || (backTo cpos (starEach [] X.env)).any (·.1)) = false by rw [hp]; rfl) (Calls.evalArgs_plain (thn run fun us s2 w => ?_))
  obtain ⟨vs, H2, I2, r2, q2⟩ := w
  exact hm pins s2 σ H2 (.ref p) vs (.ref p) us Q I2 rfl r2 q2⟩
theorem x_tindex {k : Nat} {o : Expr} {p2 : Pos} (hK : X.K = K) (hr : Room k X.A) (ho : XB K X o ma) (ha : XB K X e mb) (h : PE X (.Call (.Attribute o "index" p) [e] [] p2) (tTM X.K (rTix X.K) (tBo K ma) (tBo K mb))) :
    XE K X (.Call (.Attribute o "index" p) [e] [] p2) (m2 fIndex ma mb) := pe_imp h fun σ H Q ⟨H0, G, s, d, rs, e, q⟩ => by
  subst hK
  obtain ⟨x, ex, e⟩ := some_bind e
  obtain ⟨y, ey, e⟩ := some_bind e
  unfold fIndex at e
  split at e
  · obtain ⟨hm, e⟩ := if_some e
    obtain ⟨j, hj, rfl⟩ := Option.map_eq_some_iff.mp e
    refine ⟨H0, G, s, _, rs, ex, fun v H1 e1 rv => ?_⟩
    obtain ⟨p, xs, rfl, hr', ra⟩ := RB.itemsT rv
    refine ⟨⟨p, xs, rfl, hr'⟩, H0, G, s, y, rs.mono e1, ey, fun u H2 e2 ru => ?_⟩
    have ru' := RB.any (rs.mono e1) e2 ru
    exact ⟨p, xs, u, _, y, j, rfl, rfl, (e2.sqt hr').sqt, RA.dp _ _ (ra.ex e2), R.dp _ _ ru', RA.lay _ _ ra, R.lay _ _ ru', hm, hj, q _ H2 (e1.trans e2) (.int _)⟩
  · cases e

/-! ### sorted(xs) -/
def alikeAllB (ds : List D) : Bool := ds.all fun d => ds.all fun d' => W.alike d d'
def sortB (ds : List D) : Bool := (ds.all fun d => match d with | .tuple (_ :: _) => true | _ => false) || (ds.all fun d => match d with | .none => false | .tuple _ => false | _ => true)
def sortD (ds : List D) : List D := ds.mergeSort (W.dataLe false id)
def fSorted (ds : List D) : Option (List D) := if alikeAllB ds = true ∧ sortB ds = true ∧ PyData.depthAll ds ≤ 60 ∧ ds.length ≤ 100000 then some (sortD ds) else none
def mSorted (m : M) : ML := fun s => (m s).bind fun d => (fList d).bind fSorted
theorem alikeAllB_of {ds : List D} (h : alikeAllB ds = true) : W.AllAlike (ds.map id) := fun d hd d' hd' => by
  rw [List.map_id] at hd hd'
  exact List.all_eq_true.mp (List.all_eq_true.mp h d hd) d' hd'
theorem sortB_of {ds : List D} (h : sortB ds = true) : W.Sortable (ds.map id) := by
  rw [List.map_id]
  unfold sortB at h
  rw [Bool.or_eq_true] at h
  rcases h with h | h
  · refine .inl fun d hd => ?_
    have := List.all_eq_true.mp h d hd
    split at this
    · exact ⟨_, _, rfl⟩
    · cases this
  · refine .inr fun d hd => ?_
    have := List.all_eq_true.mp h d hd
    split at this
    · cases this
    · cases this
    · rename_i n1 n2
      exact ⟨n1, n2⟩
theorem depth_le {ds : List D} {d : D} (h : d ∈ ds) : d.depth ≤ PyData.depthAll ds := by
  induction ds with
  | nil => cases h
  | cons x xs ih =>
    simp only [PyData.depthAll]
    rcases List.mem_cons.mp h with e | e
    · subst e; exact Nat.le_max_left _ _
    · exact Nat.le_trans (ih e) (Nat.le_max_right _ _)
theorem each_of {P : V → D → Prop} : ∀ {vs : List V} {us : List Value} {ds : List D}, Vals vs us → RA K B H vs ds → W.EachIs (fun u d => ∃ x, RelV x u ∧ R K B H x d) us ds
  | _, _, _, .nil, h => by cases h; exact .nil
  | _, _, _, .cons r t, h => by
    cases h with
    | cons h1 h2 => exact .cons ⟨_, r, h1⟩ (each_of (P := P) t h2)
theorem of_each : ∀ {us : List Value} {ds : List D}, W.EachIs (fun u d => ∃ x, RelV x u ∧ R K B H x d) us ds → ∃ vs, Vals vs us ∧ RA K B H vs ds
  | _, _, .nil => ⟨[], .nil, .nil⟩
  | _, _, .cons h t => by
    obtain ⟨x, h1, h2⟩ := h
    obtain ⟨vs, k1, k2⟩ := of_each t
    exact ⟨x :: vs, .cons h1 k1, .cons h2 k2⟩
def rSortedD (K : Fg) : List V → Hp → VK → Prop := fun vs H Q => ∃ (B : Addr → Prop) (a : Addr) (xs : List V) (ds : List D), vs = [.ref a] ∧ SqL K H a xs ∧ RA K B H xs ds ∧ alikeAllB ds = true ∧ sortB ds = true ∧ PyData.depthAll ds ≤ 60 ∧
  ∀ ys p, H p = none → RA K B H ys (sortD ds) → Q (.ref p) (upd H p (.lst ys))
theorem call_sortedD {k : Nat} (hr : Room k X.A) : CallR X (.builtin "sorted") (rSortedD X.K) := fun pins s σ H vs us Q I r h => by
  obtain ⟨B, a, xs, ds, rfl, hs, ra, ha, hb, hd, q⟩ := h
  obtain ⟨its, rv, hl, hz⟩ := I.list hs
  rw [Vals.ref1 r]
  have e := each_of (P := fun _ _ => True) rv ra
  refine W.sorted_data (enc := id) hl.isList e (e.mono fun u d ⟨x, h1, h2⟩ => Dp.reads I d x u (R.dp _ _ h2) h1) (alikeAllB_of ha) (sortB_of hb) (by rw [← ra.length]; exact hz) (fun d hm => by
    have h1 := depth_le hm
    have h2 := hr.units
    show X.A.units + 2 + d.depth < cLine
    omega) fun out hout eo => ?_
  obtain ⟨ys, k1, k2⟩ := of_each eo
  obtain ⟨ep, he⟩ := PyProof.Rows.sortedAll_at s.heap its out.toArray
  have hlen : ys.length ≤ sizeLine := by
    rw [k1.length, hout, ← ra.length]; exact hz
  exact ⟨.ref _, upd H (s.heap.objs.size + 1) (.lst ys), I.laid (t' := s.toks) (fun _ _ => PyProof.Rows.sortedAll_old) (Nat.le_succ _) ⟨hlen, out, ep, k1, he⟩, rfl, q ys _ (I.hok.fresh (Nat.le_succ _)) k2⟩
theorem l_sorted {k : Nat} (hK : X.K = K) (hr : Room k X.A) (hg : Gl X "sorted") (hm : X.mg "sorted" = none) (ha : XB K X e m) (he : starEach [e] X.env = (false, eval e X.env) :: starEach [] X.env := by rfl) (hpl : (backTo pos (starEach [] X.env)).any (·.1) = false := by rfl) :
    XL K X (.Call (.Name "sorted" p) [e] [] pos) (mSorted m) := by
  subst hK
  refine pe_imp (pe_callB (call_sortedD hr) hg hm (by decide +kernel) (pa_cons ha pa_nil he) (by decide) (by decide) he hpl) fun σ H Q ⟨H0, G, s, d, rs, e, q⟩ => ?_
  obtain ⟨x, ex, e⟩ := some_bind e
  obtain ⟨ds, ed, e⟩ := some_bind e
  obtain ⟨⟨h1, h2, h3, h4⟩, e⟩ := if_some e
  cases e
  have := fList_some ed
  subst this
  refine ⟨H0, G, s, _, rs, ex, fun v H1 e1 rv => ?_⟩
  obtain ⟨p, xs, rfl, hr', ra⟩ := RB.items rs e1 rv
  exact ⟨_, p, xs, ds, rfl, hr', ra, h1, h2, h3, fun ys o ho ry => q o ys _ (e1.back ho) (e1.trans (Ex.new ho)) upd_same ((ry.free ho).ex (Ex.new ho))⟩
end
end DD

namespace DD
open PySem L2
section
variable {K : Fg} {X : Cx} {C : XC} {e : Expr} {ml : ML} {pos p : Pos} {es : List Expr} {k n : Nat} {x : Str} {f : MF}
theorem x_callB {k' : Nat} (c : Cal X.prog X.w K X.mg X.base CX0 C k x n f) (hr : Room k' X.A) (hk : k ≤ k') (hK : X.K = K) (hg : Gl X x) (ha : XAb K X (e :: es) ml) (hdb : (x == ("__debug__" : Str)) = false := by decide)
    (he : starEach (e :: es) X.env = (false, eval e X.env) :: starEach es X.env := by rfl) (hpl : (backTo pos (starEach es X.env)).any (·.1) = false := by rfl) : XE K X (.Call (.Name x p) (e :: es) [] pos) (mCallB n f ml) := by
  subst hK
  exact pe_imp (call_pe (E := E0) c (hr.mono hk) hg pass0 ha hdb he hpl) fun _ _ _ h => rdCallB h
theorem x_callC {k' : Nat} (c : Cal X.prog X.w K X.mg X.base CX0 C k x n f) (hr : Room k' X.A) (hk : k ≤ k') (hK : X.K = K) (hg : Gl X x) (ha : XA K X (e :: es) ml) (hdb : (x == ("__debug__" : Str)) = false := by decide)
    (he : starEach (e :: es) X.env = (false, eval e X.env) :: starEach es X.env := by rfl) (hpl : (backTo pos (starEach es X.env)).any (·.1) = false := by rfl) : XE K X (.Call (.Name x p) (e :: es) [] pos) (mCall n f ml) := by
  subst hK
  exact pe_imp (call_pe (E := E0) c (hr.mono hk) hg pass0 ha hdb he hpl) fun _ _ _ h => rdCall h
theorem l_callB {k' : Nat} (c : Cal X.prog X.w K X.mg X.base CX0 C k x n f) (hr : Room k' X.A) (hk : k ≤ k') (hK : X.K = K) (hg : Gl X x) (ha : XAb K X (e :: es) ml) (hdb : (x == ("__debug__" : Str)) = false := by decide)
    (he : starEach (e :: es) X.env = (false, eval e X.env) :: starEach es X.env := by rfl) (hpl : (backTo pos (starEach es X.env)).any (·.1) = false := by rfl) : XL K X (.Call (.Name x p) (e :: es) [] pos) (mCallBL n f ml) := by
  subst hK
  exact pe_imp (call_pe (E := E0) c (hr.mono hk) hg pass0 ha hdb he hpl) fun _ _ _ h => rdCallBL h
theorem l_callC {k' : Nat} (c : Cal X.prog X.w K X.mg X.base CX0 C k x n f) (hr : Room k' X.A) (hk : k ≤ k') (hK : X.K = K) (hg : Gl X x) (ha : XA K X (e :: es) ml) (hdb : (x == ("__debug__" : Str)) = false := by decide)
    (he : starEach (e :: es) X.env = (false, eval e X.env) :: starEach es X.env := by rfl) (hpl : (backTo pos (starEach es X.env)).any (·.1) = false := by rfl) : XL K X (.Call (.Name x p) (e :: es) [] pos) (mCallL n f ml) := by
  subst hK
  exact pe_imp (call_pe (E := E0) c (hr.mono hk) hg pass0 ha hdb he hpl) fun _ _ _ h => rdCallL h
/-- exceptions: none -/
def C0 : XC := fun _ _ _ _ _ => False
/-- xs.append(e), xs.reverse() -/
theorem s_appN {i : Nat} {o : Expr} {m : M} {E : XK} {p1 p2 p3 : Pos} (hK : X.K = K) (hx : PE X o (tVar i)) (he : XE K X e m) (hs : starEach [e] X.env = (false, eval e X.env) :: starEach [] X.env := by rfl)
    (hb : attributeBase o "append" X.env (eval o X.env) = eval o X.env := by rfl)
    (hf : ((backTo p2 (starEach [e] X.env)).all (fun x => !x.1) && (backToKw p2 (keywordEach [] X.env)).all (fun x => x.1.isSome) && decide ([e].length + ([] : List Keyword).length + (if ([] : List Keyword).isEmpty then 0 else 1) < 30)) = true := by rfl)
    (hl : (p1.endLine == p2.line) = true := by rfl) (hp : (backTo p2 (starEach [] X.env)).any (·.1) = false := by rfl)
    (hw : swapsWith (.Call (.Attribute o "append" p1) [e] [] p2) none p3.line X.env = pure false := by rfl) :
    XS K C E X (.Expr (.Call (.Attribute o "append" p1) [e] [] p2) p3) (mApp i m) := by
  have ht := ps_expr (pos := p3) (pe_bm PySem.F.plainAttrs_list PySem.F.slot_list_append PySem.F.type_list_append mt_append hx (pa_cons he pa_nil hs) hb hf hl hs hp) hw
  exact s_app hK hx he hw ht
theorem s_revN {i : Nat} {o : Expr} {E : XK} {p1 p2 p3 : Pos} (hK : X.K = K) (hx : PE X o (tVar i))
    (hb : attributeBase o "reverse" X.env (eval o X.env) = eval o X.env := by rfl) (hl : (p1.endLine == p2.line) = true := by rfl)
    (hw : swapsWith (.Call (.Attribute o "reverse" p1) [] [] p2) none p3.line X.env = pure false := by rfl) :
    XS K C E X (.Expr (.Call (.Attribute o "reverse" p1) [] [] p2) p3) (mRevS i) :=
  s_reverse hK (ps_expr (pos := p3) (pe_bm0 PySem.F.plainAttrs_list PySem.F.slot_list_reverse PySem.F.type_list_reverse mt_reverse hx hb hl) hw)
end
/-- a def as its callers see it -/
theorem cal_of {P : Program} {w : World} {K : Fg} {mg : Str → Option Value} {base : Heap} {CX : CXT} {C : XC} {k n : Nat} {x : Str} {m : MF} {f : Addr} {fd : FuncData} {ps : List Str} (F : FnOk P w K mg base CX k f fd ps (spD K C n m)) (hm : mg x = some (.ref f)) (hk : PySem.W.keepIn K (.ref f) = true) (hb : Binds K fd ps []) : Cal P w K mg base CX C k x n m := ⟨f, fd, ps, F, hm, hk, hb⟩
/-- the law's promise over data: it gives True at every script -/
theorem law_sp {K : Fg} {C : XC} {m : MF} {H : Hp} {a : Addr} {ns : List Int} (h : m [.list (ns.map .int)] = .rt (.bool true)) (hs : SqL K H a (ns.map V.int)) : spD K C 1 m [.ref a] H (fun v _ => v = .bl true) fun _ _ _ => False := by
  have nums : ∀ ms : List Int, RA K (fun _ => True) H (ms.map V.int) (ms.map .int) := fun ms => by
    induction ms with
    | nil => exact .nil
    | cons m ms ih => exact .cons (.int m) ih
  refine ⟨fun _ => True, [.list (ns.map .int)], rfl, .cons (.lst (hs.elim (fun q => .inl ⟨trivial, q⟩) .inr) (nums ns)) .nil, ?_⟩
  rw [h]
  intro v H' e r
  cases r
  rfl
end DD

/-! # Sets over data -/
namespace DD
open PySem L2
def intsD : List D → Option (List Int)
  | [] => some []
  | .int i :: r => (intsD r).map (i :: ·)
  | _ => none
def keyD : D → Option (List Int)
  | .tuple ds => intsD ds
  | _ => none
def keysD : List D → Option (List (List Int))
  | [] => some []
  | d :: r => (keyD d).bind fun k => (keysD r).map (k :: ·)
theorem opt_map {α β : Type} {x : Option α} {f : α → β} {y : β} (h : x.map f = some y) : ∃ a, x = some a ∧ y = f a := by
  cases x with
  | none => cases h
  | some a => cases h; exact ⟨a, rfl, rfl⟩
section
variable {K : Fg} {X : Cx} {C : XC} {E : XK} {B : Addr → Prop} {H H' H0 : Hp} {G : Addr → Prop} {σ : St} {s : S}
theorem RA.intsD : ∀ {ds : List D} {vs : List V} {k : List Int}, RA K B H vs ds → intsD ds = some k → vs = k.map V.int
  | [], _, k, .nil, e => by cases e; rfl
  | d :: ds, _, k, .cons h1 h2, e => by
    cases d with
    | int i =>
      obtain ⟨k2, e2, rfl⟩ := opt_map e
      cases h1
      rw [RA.intsD h2 e2]; rfl
    | _ => cases e
theorem R.keyD {d : D} {v : V} {k : List Int} (h : R K B H v d) (e : keyD d = some k) : ∃ a, v = .ref a ∧ TupX K H a (k.map V.int) := by
  cases d with
  | tuple ds =>
    cases h with
    | tup hr ha =>
      rw [RA.intsD ha e] at hr
      exact ⟨_, rfl, hr⟩
  | _ => cases e
theorem RA.keysD : ∀ {ds : List D} {vs : List V} {ks : List (List Int)}, RA K B H vs ds → keysD ds = some ks → ∃ L : List (Addr × List Int), vs = L.map (fun p => V.ref p.1) ∧ (∀ p ∈ L, TupX K H p.1 (p.2.map V.int)) ∧ L.map (·.2) = ks
  | [], _, ks, .nil, e => by cases e; exact ⟨[], rfl, fun p hp => (by cases hp), rfl⟩
  | d :: ds, _, ks, .cons h1 h2, e => by
    obtain ⟨k, e1, e2⟩ := some_bind e
    obtain ⟨ks2, e3, rfl⟩ := opt_map e2
    obtain ⟨a, rfl, ht⟩ := h1.keyD e1
    obtain ⟨L, rfl, hL, rfl⟩ := RA.keysD h2 e3
    refine ⟨(a, k) :: L, rfl, fun p hp => ?_, rfl⟩
    rcases List.mem_cons.mp hp with rfl | hp
    · exact ht
    · exact hL p hp
def fKeys (d : D) : Option (List (List Int)) := (items d).bind fun ds => if ds.length < 64 then keysD ds else none
theorem Tr.setS {v : Option V} {ks : List (List Int)} (i : Nat) : Tr σ s H (σ.set i v) (s.set i (some (.st ks))) H := fun a o h n => ⟨h, fun ⟨j, ds, h1, h2⟩ => n (by
  rcases get_set h1 with ⟨_, e, _⟩ | ⟨hj, h1⟩
  · cases e
  · rcases get_set h2 with ⟨e, _⟩ | ⟨_, h2⟩
    · exact (hj e).elim
    · exact ⟨j, ds, h1, h2⟩)⟩
abbrev MK := S → Option (List (List Int))
def tSt (K : Fg) (m : MK) : TE := fun σ H Q => ∃ H0 G s ks, RS K H0 G σ H s ∧ m s = some ks ∧ ∀ v H', Ex H H' → HasSet K H' v ks → Q v H'
def mSet (m : M) : MK := fun s => (m s).bind fKeys
def mAsgSt (i : Nat) (m : MK) : MS := fun s => match m s with
  | some ks => .nx (s.set i (some (.st ks)))
  | none => .no
theorem s_asgSt {i : Nat} {m : MK} {st : Stmt} (h : PS X st (tAsg (tSt K m) (gName i))) : XS K C E X st (mAsgSt i m) := ps_imp h fun Dn σ H ⟨H0, G, s, r, q⟩ => by
  unfold mAsgSt at q
  cases hm : m s with
  | none => rw [hm] at q; exact q.elim
  | some ks =>
    rw [hm] at q
    exact ⟨H0, G, s, ks, r, hm, fun v H1 e1 hv => q _ H1 ((r.mono e1).setS i hv) ((Tr.setS (H := H1) i).ex e1)⟩
theorem keysD_len : ∀ {ds : List D} {ks : List (List Int)}, keysD ds = some ks → ks.length = ds.length
  | [], _, e => by cases e; rfl
  | d :: ds, ks, e => by
    obtain ⟨k, e1, e2⟩ := some_bind e
    obtain ⟨ks2, e3, rfl⟩ := opt_map e2
    simp [keysD_len e3]
/-- set(e) -/
theorem x_set {k : Nat} {m : M} {e : Expr} {p pos : Pos} (hK : X.K = K) (hr : Room k X.A) (hc : X.calm = true) (hg : Gl X "set") (hm : X.mg "set" = none) (ha : XB K X e m)
    (he : starEach [e] X.env = (false, eval e X.env) :: starEach [] X.env := by rfl) (hpl : (backTo pos (starEach [] X.env)).any (·.1) = false := by rfl) : PE X (.Call (.Name "set" p) [e] [] pos) (tSt K (mSet m)) := by
  subst hK
  refine pe_imp (pe_callTy (cr_setTup hc hr.units) hg hm (by decide +kernel) (pa_cons ha pa_nil he) (by decide) (by decide) he hpl) fun σ H Q ⟨H0, G, s, ks, r, hk, q⟩ => ?_
  obtain ⟨d, ed, ek1⟩ := some_bind hk
  obtain ⟨ds, ei, ek2⟩ := some_bind ek1
  obtain ⟨hl, ek3⟩ := if_some ek2
  refine ⟨H0, G, s, d, r, ed, fun v H1 e1 rv => ?_⟩
  have key : ∃ (l : Addr) (L : List (Addr × List Int)), v = .ref l ∧ (SqL X.K H1 l (L.map fun p => V.ref p.1) ∨ SqT X.K H1 l (L.map fun p => V.ref p.1)) ∧ (∀ p ∈ L, TupX X.K H1 p.1 (p.2.map V.int)) ∧ L.map (·.2) = ks := by
    unfold items at ei
    split at ei
    · cases ei
      obtain ⟨p, xs, rfl, hr', ra⟩ := RB.items r e1 rv
      obtain ⟨L, rfl, hL, hk⟩ := ra.keysD ek3
      exact ⟨p, L, rfl, .inl hr', hL, hk⟩
    · cases ei
      obtain ⟨p, xs, rfl, hr', ra⟩ := RB.itemsT rv
      obtain ⟨L, rfl, hL, hk⟩ := ra.keysD ek3
      exact ⟨p, L, rfl, .inr hr'.sqt, hL, hk⟩
    · cases ei
  obtain ⟨l, L, rfl, hs, hL, hks⟩ := key
  refine ⟨l, L, rfl, hs, fun p hp => (hL p hp).sqt, ?_, fun a L' ha' h1 h2 => ?_⟩
  · have e2 := congrArg List.length hks
    rw [List.length_map] at e2
    have e3 := keysD_len ek3
    omega
  · refine q _ _ (e1.trans (Ex.new ha')) ⟨a, L', rfl, upd_same, fun p hp => (Ex.new ha').sqt (hL p (h1 p hp)), fun k => ?_⟩
    rw [← hks]
    constructor
    · intro hk'
      obtain ⟨p, hp, rfl⟩ := List.mem_map.mp hk'
      exact List.mem_map.mpr ⟨p, h1 p hp, rfl⟩
    · intro hk'
      obtain ⟨p, hp, rfl⟩ := List.mem_map.mp hk'
      exact h2 p hp
def mInSt (m : M) (j : Nat) : M := fun s => (m s).bind fun d => (keyD d).bind fun k => match s[j]? with
  | some (some (.kd (.set ks))) => some (.bool (decide (k ∈ ks)))
  | _ => none
theorem x_inSt {j k : Nat} {m : M} {a b : Expr} {pos : Pos} (hK : X.K = K) (hr : Room k X.A) (ha : XB K X a m) (hb : PE X b (tVar j)) (hm : behindInMarks .In b = false := by rfl) : XE K X (.Compare a [.In] [b] pos) (mInSt m j) := by
  subst hK
  refine pe_imp (pe_cmpR (or_setIn hr.units) ha hb hm) fun σ H Q ⟨H0, G, s, d, r, e, q⟩ => ?_
  obtain ⟨d', ed, e⟩ := some_bind e
  obtain ⟨k', ek, e⟩ := some_bind e
  refine ⟨H0, G, s, d', r, ed, fun v H1 e1 rv => ?_⟩
  split at e
  · rename_i ks hj
    cases e
    obtain ⟨u, h1, a', L, rfl, h2, h3, h4⟩ := (r.mono e1).st j (.set ks) hj
    obtain ⟨p, rfl, hp⟩ := R.keyD (RB.any r e1 rv) ek
    refine ⟨_, h1, p, a', k', L, rfl, rfl, hp.sqt, h2, fun q hq => (h3 q hq).sqt, ?_⟩
    have : decide (k' ∈ L.map (·.2)) = decide (k' ∈ ks) := by rw [decide_eq_decide]; exact h4 k'
    simp only [Bool.false_eq_true, if_false]
    rw [this]
    exact q _ H1 e1 (.bl _)
  · cases e
theorem t_inSt {j k : Nat} {m : M} {a b : Expr} {pos : Pos} (hK : X.K = K) (hr : Room k X.A) (ha : XB K X a m) (hb : PE X b (tVar j)) (hm : behindInMarks .In b = false := by rfl) : XT K X (.Compare a [.In] [b] pos) (mT (mInSt m j)) := by
  subst hK
  refine pt_imp (pt_cmpR (or_setIn hr.units) ha hb hm) fun σ H Q h => ?_
  obtain ⟨H0, G, s, d, r, e, q⟩ := tT_tD h
  obtain ⟨d', ed, e⟩ := some_bind e
  obtain ⟨k', ek, e⟩ := some_bind e
  refine ⟨H0, G, s, d', r, ed, fun v H1 e1 rv => ?_⟩
  split at e
  · rename_i ks hj
    cases e
    obtain ⟨u, h1, a', L, rfl, h2, h3, h4⟩ := (r.mono e1).st j (.set ks) hj
    obtain ⟨p, rfl, hp⟩ := R.keyD (RB.any r e1 rv) ek
    refine ⟨_, h1, p, a', k', L, rfl, rfl, hp.sqt, h2, fun q hq => (h3 q hq).sqt, ?_⟩
    have : decide (k' ∈ L.map (·.2)) = decide (k' ∈ ks) := by rw [decide_eq_decide]; exact h4 k'
    simp only [Bool.false_eq_true, if_false]
    rw [this]
    exact q _ H1 e1 (.bl _)
  · cases e
end
@[simp] theorem e_asgSt {i : Nat} {m : MK} {s : S} : mAsgSt i m s = (m s).elim .no fun ks => .nx (s.set i (some (.st ks))) := by unfold mAsgSt; cases m s <;> rfl
@[simp] theorem e_set {m : M} {s : S} : mSet m s = (m s).bind fKeys := rfl
def stAt : Option (Option Sl) → Option (List (List Int))
  | some (some (.kd (.set ks))) => some ks
  | _ => none
@[simp] theorem stAt_1 {ks : List (List Int)} : stAt (some (some (.st ks))) = some ks := rfl
@[simp] theorem e_inSt {m : M} {j : Nat} {s : S} : mInSt m j s = (m s).bind fun d => (keyD d).bind fun k => (stAt s[j]?).map fun ks => .bool (decide (k ∈ ks)) := by
  unfold mInSt; generalize s[j]? = o
  rcases o with _ | _ | _ | _ | (_ | _) <;> rfl
end DD

/-! # An own exception whose __init__ says super().__init__(e) -/
namespace DD
open PySem L2 NdefX
/-- what the written part says of the class at C and of its __init__ at f (code object cda, cell cc) -/
structure SupF (prog : Program) (K : PySem.W.Frag) (mg : Str → Option Value) (f cda cc C : Addr) : Prop where
  fn : ∃ (o : Obj) (fd : FuncData) (ar : Arg), K.lookup f = some o ∧ o.data = .func fd ∧ (fd.params.posonlyargs ++ fd.params.args).head? = some ar ∧ ar.arg = "self"
  code : ∃ (o : Obj) (vs : Array Value) (file : Str) (tf : Tok), K.lookup cda = some o ∧ o.data = .fields vs ∧ vs[2]? = some (.str file tf) ∧ ((prog.main.file : Str) == file) = true
  cell : ∃ (o : Obj), K.lookup cc = some o ∧ o.data = .cell (some (.ref C))
  sub : PySem.W.mroIn K C (.ref C) = some true
  along : PySem.W.ks_superIn K C C "__init__" = some (some (.builtin "ValueError.__init__"))
  isV : PySem.W.subIn K (.ref C) (.type "ValueError") = some true
  clear : PySem.W.nsIn K PySem.cStatics "thirdparty.any" = some none
  oex : OexC K C
  noS : mg "super" = none
  top : (prog.main.scope.names.lookup ("super" : Str)).isSome = false
/-- how the body's names stand -/
structure SupE (X : Cx) (f cda cc : Addr) : Prop where
  fu : X.env.func = some f
  co : X.env.code = .ref cda
  su : X.env.kindOf ("super" : Str) = some .globalImplicit
  cl : X.env.kindOf ("__class__" : Str) = some .free
  ce : X.env.cells.lookup ("__class__" : Str) = some cc
  se : X.env.kindOf ("self" : Str) = some .local
  n0 : X.N[0]? = some ("self" : Str)
theorem self_at {X : Cx} {pins : List (Addr × Obj)} {σ : St} {H : Hp} {s : Shared} {a f cda cc : Addr} (I : Inv X pins σ H s) (S : SupE X f cda cc) (h0 : σ[0]? = some (some (.ref a))) :
    ∃ m, s.heap.Ns X.env.locals m ∧ m "self" = some (.ref a) := by
  obtain ⟨m, hn, hl⟩ := I.loc
  obtain ⟨u, ru, lk⟩ := hl 0 "self" (.ref a) S.n0 h0 (.inl (by simpa [Env.kindOf] using S.se))
  obtain rfl : u = Value.ref a := ru
  rcases lk with ⟨_, e⟩ | ⟨k, _⟩
  · exact ⟨m, hn, e⟩
  · rw [S.se] at k
    rcases k with k | k <;> cases k
theorem boot_super : bootBuiltins ("super" : Str) = some (.type "super") := by first | rfl | decide +kernel
section
variable {X : Cx} {pins : List (Addr × Obj)} {σ : St} {H : Hp} {s : Shared} {a f cda cc C : Addr} {e : Expr} {te : TE} {p0 p1 p2 pos : Pos} {body : List Stmt} {E : Value → Shared → Prop}
/-- the method-wrapper called -/
theorem call_mw {u : Addr} {us : List Value} {Q : Value → Shared → Prop} (T : OexC X.K C) (I : Inv X pins σ H s) (hu : s.heap.get? u = some (PySem.W.kxs_mw "ValueError.__init__" a)) (e : H a = some (exo a C none)) (hl : us.length ≤ sizeLine) (h : ∀ s', Inv X pins σ H s' → Q .none s') :
    wpAny (model X.prog X.w) X.A (call (.ref u) us) Q E s := by
  obtain ⟨nm, q, N, bs, bm, sn, sub, ab, col, dd, k0, k1, k2, k3, k5, hC, hbm⟩ := T.cls
  obtain ⟨t1, ho⟩ := exo_at I.hok e
  obtain ⟨hp, g, d, t, os⟩ := s
  refine wpAny_call (codeAny_of_tree ?_)
  show wpAny _ X.A.in1 (callAny (.ref u) ⟨us, []⟩) _ _ _
  simp only [callAny]
  refine wpAny_bind (wpAny_load hu ?_)
  simp only [PySem.W.kxs_mw, show (Value.type "method-wrapper" == Value.type "method" || Value.type "method-wrapper" == Value.type "builtin_function_or_method" || Value.type "method-wrapper" == Value.type "method-wrapper") = true by decide, if_true]
  refine PySem.W.KFB.if_so (by decide) ?_
  refine wpAny_bind ?_
  refine PySem.W.check_bound_init (PySem.F.excBase_ValueError).toExcCallFacts (I.kIn _ _ hC) ho rfl ?_
  refine wpAny_bind (wpAny_pure (wpAny_pure ?_))
  refine ⟨plainId_quiet (PySem.F.excBase_ValueError).init.plain _, codeAny_builtin (PySem.F.excBase_ValueError).initEntry ?_⟩
  show wpAny _ _ (Builtin.«BaseException.__init__» ⟨.ref a :: us, []⟩) _ _ _
  refine PySem.W.exc_init_tree ho hl fun h' k hx ht => ?_
  have J := I.write (t' := t) (x := a) (e := a) (o := exo a C none) (by rw [e]; exact True.intro) (.inl rfl) k ⟨_, hx⟩ (exo_ok hx)
  have eu : upd H a (exo a C none) = H := by
    funext b
    by_cases hb : b = a
    · rw [hb, upd_same, e]
    · rw [upd_ne hb]
  rw [eu] at J
  exact h _ J
/-- super().__init__(e) -/
theorem sup_eval {Qn : Hp → Prop} {pl : Sem Bool} (F : SupF X.prog X.K X.mg f cda cc C) (S : SupE X f cda cc) (hx : X.ex = []) (I : Inv X pins σ H s) (h0 : σ[0]? = some (some (.ref a))) (ha : H a = some (exo a C none)) (he : PE X e te)
    (q : te σ H fun x H1 => [x].length ≤ 1 ∧ H1 a = some (exo a C none) ∧ Qn H1)
    (hev : eval (.Call (.Attribute (.Call (.Name "super" p0) [] [] p1) "__init__" p2) [e] [] pos) X.env = (do
      let ov ← attributeBase (.Call (.Name "super" p0) [] [] p1) "__init__" X.env (eval (.Call (.Name "super" p0) [] [] p1) X.env)
      standAt p2.atName
      let (f, first) ← holding [ov] (getMethod ov "__init__" pl)
      callWith pos f first (backTo pos (starEach [e] X.env)) []))
    (hs : starEach [e] X.env = (false, eval e X.env) :: starEach [] X.env := by rfl) :
    _root_.PySem.wpAt (model X.prog X.w) X.A (.func body X.env) (eval (.Call (.Attribute (.Call (.Name "super" p0) [] [] p1) "__init__" p2) [e] [] pos) X.env) (EP X pins σ fun _ H1 => H1 a = some (exo a C none) ∧ Qn H1) X.xe s := by
  obtain ⟨o1, fd, ar, k1, d1, hp, har⟩ := F.fn
  obtain ⟨o2, vs2, file, tf, k2, d2, hv2, hfile⟩ := F.code
  obtain ⟨o3, k3, d3⟩ := F.cell
  obtain ⟨nm, qq, N, bs, bm, sn, sub, ab, col, dd, kk0, kk1, kk2, kk3, kk5, hC, hbm⟩ := F.oex.cls
  have hcl : PySem.W.clsIn X.K C = some { name := nm, bases := bs, mro := .ref C :: bm, ns := N, qualname := qq, hasDict := true, slotNames := sn, subclasses := sub, abstract := ab, collection := col, hasDel := false } := by unfold PySem.W.clsIn; rw [hC] <;> rfl
  have KI := I.kIn
  obtain ⟨mb, hb1, hb2⟩ := I.mod.blt
  obtain ⟨mS, hn, hself⟩ := self_at I S h0
  obtain ⟨t1, ho⟩ := exo_at I.hok ha
  refine ks_wpAt_MethodCall (pl := pl) ?_ hev
  refine ks_wpAt_super_base S.su S.cl (by decide) S.fu (KI _ _ k1) d1 hp S.co (KI _ _ k2) d2 hv2 hfile F.top ?_
  refine PySem.W.ks_loadName_global I.ok.kind S.su (PySem.Calls.loadGlobal_builtin (by rw [I.ok.glob]; exact I.mod.glob.keeps I.bk) F.noS (by rw [I.ok.blt]; exact hb1.keeps I.bk) ((hb2 _ (by decide)).trans boot_super) ⟨rfl, ?_⟩)
  refine wpAny_loadName_free I.ok.kind S.cl S.ce ⟨_, KI _ _ k3, d3⟩ ?_
  rw [har]
  refine wpAny_loadName_local I.ok.kind S.se hn hself ?_
  obtain ⟨hp0, g, d, t, os⟩ := s
  refine ks_wpAny_isType_cls (KI _ _ hC) rfl ⟨rfl, ?_⟩
  refine ks_wpAny_call_super (KI _ _ hC) rfl ho rfl (fun c z => by cases z) (PySem.W.looks_mroIn KI F.sub) (fun h' hso k => ?_)
  have I1 : Inv X pins σ H ⟨h', g, d, t, os⟩ := I.kept (t' := t) k
  have KI1 := I1.kIn
  have ho1 := k _ _ ho
  have LT : PySem.W.Looks (model X.prog X.w) h' (typeOf (.ref a)) (.ref C) := fun A Q E s k q => wpAny_typeOf_ref (k _ _ ho1) q
  have hne : a ≠ C := fun z => by
    have e1 := KI1 _ _ hC
    rw [z] at ho1
    rw [ho1] at e1
    cases e1
  have hal := F.along
  unfold PySem.W.ks_superIn at hal
  rw [hcl, Option.bind_some] at hal
  refine PySem.W.kxs_getMethod PySem.W.kxs_ValueError hso (PySem.W.looks_opaque KI1 F.clear) (l₀ := .ref C :: bm) ?_ rfl KI1 hal (LT.andThen (PySem.W.looks_subIn KI1 F.isV)) hne (by decide) ?_
  · exact fun A Q E s k q => wpAny_bind ((PySem.W.looks_clsIn KI1 hcl) A _ E s k (wpAny_pure q))
  have k2 : ∀ b o, h'.get? b = some o → (h'.push (PySem.W.kxs_mw "ValueError.__init__" a)).get? b = some o := fun b o z => Heap.get?_push_of_some _ z
  have gu : (h'.push (PySem.W.kxs_mw "ValueError.__init__" a)).get? h'.objs.size = some (PySem.W.kxs_mw "ValueError.__init__" a) := Heap.get?_push_size _ rfl
  have I2 : Inv X pins σ H ⟨h'.push (PySem.W.kxs_mw "ValueError.__init__" a), g, d, t + 1, os⟩ := I1.kept (t' := t + 1) k2
  have nu : H h'.objs.size = none := I1.hok.fresh (Nat.le_refl _)
  have I3 : Inv X ((h'.objs.size, PySem.W.kxs_mw "ValueError.__init__" a) :: pins) σ H ⟨h'.push (PySem.W.kxs_mw "ValueError.__init__" a), g, d, t + 1, os⟩ := I2.pins_of fun p hp => by
    rcases List.mem_cons.mp hp with rfl | hp
    · exact ⟨gu, nu, Nat.ne_of_gt I1.lt, I1.nofs (Nat.le_refl _), fun v z => by cases z⟩
    · exact I2.pin p (List.mem_append_right _ hp)
  refine PySem.W.kxs_callWith (i := "ValueError.__init__") (x := a) (by rw [hs]; rfl) ?_
  rw [hs]
  refine PySem.Calls.evalArgs_plain ?_
  have hA := (pa_cons he pa_nil hs).run pos ((h'.objs.size, PySem.W.kxs_mw "ValueError.__init__" a) :: pins) _ σ H (fun vs H1 => vs.length ≤ 1 ∧ H1 a = some (exo a C none) ∧ Qn H1) I3 q
  rw [hs] at hA
  refine thn hA fun us s2 ⟨vs, H2, J, rv, l1, ha2, q2⟩ => ?_
  have gp := J.pin (h'.objs.size, PySem.W.kxs_mw "ValueError.__init__" a) (List.mem_append_right _ List.mem_cons_self)
  have J2 : Inv X pins σ H2 s2 := J.pins_of fun p hp => J.pin p (List.mem_append_right _ (List.mem_cons_of_mem _ hp))
  refine ⟨gp.1, ?_⟩
  have hl := rv.length
  exact call_mw (a := a) F.oex J2 gp.1 ha2 (by show us.length ≤ sizeLine; rw [← hl, sizeLine_eq]; omega) fun s' J' => ⟨.non, H2, J', rfl, ha2, q2⟩
end
/-! ### the def -/
abbrev supN (name qual : Str) (params : Arguments) (body : List Stmt) (scope : Scope) (cc cda : Addr) : NF := ⟨name, qual, params, body, scope, [("__class__", cc)], cda⟩
theorem fn_sup {CX : CXT} {P : Program} {w : World} {K : PySem.W.Frag} {mg : Str → Option Value} {base : Heap} {k : Nat} {f cda cc : Addr} {name qual : Str} {params : Arguments} {body : List Stmt} {scope : Scope} {dV kV doc pm ct oc : Value} {an od : Option Addr} {osl : Array (Option Value)} {N ps : List Str} {sp : Sp}
    (lk : K.lookup f = some ⟨oc, od, .func (PySem.W.ksFn name qual params body scope dV kV doc pm an (.ref cda) ct cc), osl⟩) (hcd : PySem.W.codeIn K (.ref cda) qual = true) (hcc : ∃ o v, K.lookup cc = some o ∧ o.data = .cell v) (S : NScope N ps ["__class__"] scope)
    (len : ∀ vs H Q E, sp vs H Q E → vs.length = ps.length)
    (hbody : ∀ (A : Around) (outer : List Env) (s : Shared) (H : Hp) (vs : List V) (Q : VK) (E : XK), Room k (A.deeper (envF (supN name qual params body scope cc cda) f s.heap.objs.size)) → sp vs H Q E →
      ∀ s₁, Inv (ncx CX P w K mg base N (supN name qual params body scope cc cda) f A outer s H E) [] (startF N vs [none]) H s₁ →
        _root_.PySem.wpAt (model P w) (ncx CX P w K mg base N (supN name qual params body scope cc cda) f A outer s H E).A (.func body (envF (supN name qual params body scope cc cda) f s.heap.objs.size)) (execs body (envF (supN name qual params body scope cc cda) f s.heap.objs.size))
          (SP (ncx CX P w K mg base N (supN name qual params body scope cc cda) f A outer s H E) [] { nx := fun _ H' => Q .non H', rt := Q }) (ncx CX P w K mg base N (supN name qual params body scope cc cda) f A outer s H E).xe s₁) :
    FnOk P w K mg base CX (k + 1) f (PySem.W.ksFn name qual params body scope dV kV doc pm an (.ref cda) ct cc) ps sp := by
  refine ⟨len, fun A outer s H args us vs Q E hr e0 hb r hsp => ?_⟩
  have hl := len _ _ _ _ hsp
  have KX : K.In s.heap := e0.mod.kin.keeps fun b o e => (e0.bs b o e).1
  have lim : s.heap.NoLimit := e0.mod.nolimit.keeps fun b o e => (e0.bs b o e).1
  obtain ⟨oC, vC, hC1, hC2⟩ := hcc
  have hC3 : base.get? cc = some oC := e0.mod.kin _ _ hC1
  refine ks_codeAny_call_defAt (binds := ps.zip us) hr.depth (KX _ _ lk) rfl lim (PySem.W.codeRec_of KX hcd) rfl hb S.nocell (fun ⟨n, v⟩ hy => S.par n (List.of_mem_zip hy).1) (fun h₁ hns kp => ?_) S.co S.gen S.kind
  have CA : CellsAt (supN name qual params body scope cc cda).cl ["__class__"] [none] s.heap H := by
    refine ⟨rfl, fun y c e => ?_, fun x y c e1 e2 => ?_, fun i y hi => ?_⟩
    · have hy : y = "__class__" ∧ c = cc := by
        simp only [List.lookup] at e
        split at e
        · rename_i z
          exact ⟨by simpa using z, (Option.some.inj e).symm⟩
        · cases e
      obtain ⟨_, rfl⟩ := hy
      exact ⟨(e0.bs _ _ hC3).2, vC, oC, (e0.bs _ _ hC3).1, hC2⟩
    · simp only [List.lookup] at e1 e2
      split at e1
      · rename_i z1
        split at e2
        · rename_i z2
          have z1' : x = "__class__" := by simpa using z1
          have z2' : y = "__class__" := by simpa using z2
          rw [z1', z2']
        · cases e2
      · cases e1
    · cases i with
      | zero =>
        have hy : y = "__class__" := by simpa using hi.symm
        subst hy
        exact ⟨cc, by simp [List.lookup], fun v hv => by simp at hv⟩
      | succ n => simp at hi
  have I : Inv (ncx CX P w K mg base N (supN name qual params body scope cc cda) f A outer s H E) [] (startF N vs [none]) H { s with heap := h₁, toks := s.toks + (ps.zip us).length } := inv_startN S hr.hd e0 hl r CA hns kp
  refine ks_wpAt_mono (hbody A outer s H vs Q E (hr.deeper _) hsp _ I) (fun fl s' hs => ?_) fun e s' hs => hs
  have fin : ∀ {σ' : L2.St} {H' : Hp} {v : V} {u : Value}, Inv (ncx CX P w K mg base N (supN name qual params body scope cc cda) f A outer s H E) [] σ' H' s' → L2.RelV v u → Q v H' → CE outer P w H s Q u s' :=
    fun {σ' H' v u} J rv q => ⟨v, H', J.os, J.bare, J.base, J.hok, rv, q⟩
  cases fl with
  | ret u =>
    obtain ⟨v, σ', H', J, rv, q⟩ := hs
    exact fin J rv q
  | next =>
    obtain ⟨σ', H', J, q⟩ := hs
    exact fin (v := V.non) (u := Value.none) J rfl q
  | brk =>
    obtain ⟨_, _, _, q⟩ := hs
    exact False.elim q
  | cont =>
    obtain ⟨_, _, _, q⟩ := hs
    exact False.elim q
end DD

/-! # Own exceptions over data: made, raised, caught, read -/
namespace DD
open PySem L2 NdefX
/-! ### a datum in an f-string -/
def fmtI (i : Int) : Bool := decide (i.natAbs < 10 ^ 30)
def fmtIs : List D → Bool
  | [] => true
  | .int i :: r => fmtI i && fmtIs r
  | _ => false
/-- a bound for its text, where it has one -/
def fmtB : D → Option Nat
  | .int i => if fmtI i = true then some 31 else none
  | .str x => if x.length ≤ 1000 then some x.length else none
  | .tuple ds => if fmtIs ds = true ∧ ds.length ≤ 20 then some 700 else none
  | _ => none
theorem pow_log {a : Nat} (h : a < 10 ^ 30) : a.log2 < 1920 := by
  by_cases z : a = 0
  · subst z; decide
  · rw [Nat.log2_lt z]
    exact Nat.lt_trans h (by decide +kernel)
theorem fmtI_ok {i : Int} (h : fmtI i = true) : i.natAbs.log2 < 1920 ∧ (Str.ofString (toString i)).length ≤ 31 := by
  have h1 : i.natAbs < 10 ^ 30 := of_decide_eq_true h
  exact ⟨pow_log h1, by rw [ofString_length]; exact int_text_length_le10 (by decide) h1⟩
theorem repr_ints {P : Program} {w : World} {K : Fg} {B : Addr → Prop} {H : Hp} : ∀ {ds : List D} {vs : List V} {us : List Value}, RA K B H vs ds → Vals vs us → fmtIs ds = true → ∃ ts : List Str, ReprAll P w us ts ∧ piled ts ≤ 33 * ds.length
  | [], _, _, .nil, .nil, _ => ⟨[], .nil, Nat.zero_le _⟩
  | d :: ds, _, _, .cons h1 h2, .cons r1 r2, f => by
    unfold fmtIs at f
    split at f
    · rename_i hc; cases hc
    · rename_i i r hc
      cases hc
      obtain ⟨f1, f2⟩ := Bool.and_eq_true_iff.mp f
      obtain ⟨ts, t1, t2⟩ := repr_ints (P := P) (w := w) h2 r2 f2
      obtain ⟨l1, l2⟩ := fmtI_ok f1
      cases h1
      obtain ⟨t, rfl⟩ := r1
      refine ⟨_, .cons (ReprIs.int t l1) t1, ?_⟩
      rw [piled_cons, List.length_cons]
      omega
    · cases f
/-- {e}, e a datum that has a text -/
def tFmtD (K : Fg) (te : TE) : TE := fun σ H Q => te σ H fun x H1 => ∃ (B : Addr → Prop) (d : D) (n : Nat), R K B H1 x d ∧ fmtB d = some n ∧ ∀ m : Str, m.length ≤ n → Q (.str m) H1
theorem pe_fmtD {X : Cx} {e : Expr} {te : TE} {pos : Pos} (hu : X.A.units + 2 < cLine) (he : PE X e te) : PE X (.FormattedValue e (-1) none pos) (tFmtD X.K te) := by
  refine ⟨fun pins s σ H Q I h => wpAny_FormattedValue_plain (thn (he.run pins s σ H _ I h) fun v s1 hv => ?_)⟩
  obtain ⟨x, H1, I1, r1, B, d, n, rd, hf, q⟩ := hv
  unfold fmtB at hf
  split at hf
  · obtain ⟨f1, e⟩ := if_some hf
    cases e
    obtain ⟨l1, l2⟩ := fmtI_ok f1
    cases rd
    obtain ⟨t, rfl⟩ := r1
    exact wpAny_formatField_int l1 ⟨.str _, H1, I1.tok _, ⟨_, rfl⟩, q _ l2⟩
  · obtain ⟨f1, e⟩ := if_some hf
    cases e
    cases rd
    obtain ⟨t, rfl⟩ := r1
    exact wpAny_formatField_str ⟨.str _, H1, I1, ⟨t, rfl⟩, q _ (Nat.le_refl _)⟩ ⟨.str _, H1, I1.tok _, ⟨_, rfl⟩, q _ (Nat.le_refl _)⟩ (Nat.le_trans f1 (by rw [sizeLine_eq]; decide))
  · obtain ⟨⟨f1, f2⟩, e⟩ := if_some hf
    cases e
    cases rd with
    | tup ht ra =>
      rename_i a xs
      cases r1
      obtain ⟨its, rv, ⟨o, ho, hcl, n, hd⟩, _⟩ := I1.tuple ht.sqt
      obtain ⟨ts, t1, t2⟩ := repr_ints (P := X.prog) (w := X.w) ra rv f1
      have t3 := fmt_text ts
      have z := sizeLine_eq
      exact fmt_tuple hu ho hcl hd t1 (by omega) fun m u tk hm => ⟨.str m, H1, I1.tok _, ⟨u, rfl⟩, q m (by omega)⟩
  · cases hf
/-- the parts of an f-string: a text, a slot -/
def partT (K : Fg) : Str ⊕ Nat → TE
  | .inl x => tC (.str x)
  | .inr i => tFmtD K (tVar i)
theorem tJs_parts {K : Fg} {σ : St} {H : Hp} {Q : Str → Hp → Prop} : ∀ (ps : List (Str ⊕ Nat)) (acc : Str), (∀ p ∈ ps, match p with
    | .inl x => x.length ≤ 1000
    | .inr i => ∃ v B d n, σ[i]? = some (some v) ∧ R K B H v d ∧ fmtB d = some n ∧ n ≤ 1000) → acc.length + 1000 * ps.length ≤ 100000 → (∀ m, Q m H) → tJs (ps.map (partT K)) acc σ H Q
  | [], acc, _, _, q => q acc
  | .inl x :: ps, acc, h, l, q => by
    have h1 : x.length ≤ 1000 := h _ List.mem_cons_self
    have z := sizeLine_eq
    rw [List.length_cons] at l
    refine ⟨x, rfl, by rw [strLen_append]; omega, tJs_parts ps _ (fun p hp => h p (List.mem_cons_of_mem _ hp)) (by rw [strLen_append]; omega) q⟩
  | .inr i :: ps, acc, h, l, q => by
    obtain ⟨v, B, d, n, h1, h2, h3, h4⟩ : ∃ v B d n, σ[i]? = some (some v) ∧ R K B H v d ∧ fmtB d = some n ∧ n ≤ 1000 := h _ List.mem_cons_self
    have z := sizeLine_eq
    rw [List.length_cons] at l
    refine ⟨v, h1, B, d, n, h2, h3, fun m hm => ⟨m, rfl, by rw [strLen_append]; omega, tJs_parts ps _ (fun p hp => h p (List.mem_cons_of_mem _ hp)) (by rw [strLen_append]; omega) q⟩⟩
theorem fmtB_le {d : D} {n : Nat} (h : fmtB d = some n) : n ≤ 1000 := by
  unfold fmtB at h
  split at h
  · obtain ⟨_, e⟩ := if_some h; cases e; decide
  · obtain ⟨z, e⟩ := if_some h; cases e; exact z
  · obtain ⟨_, e⟩ := if_some h; cases e; decide
  · cases h

/-! ### what __init__ promises -/
/-- the fields that the stores leave, the last one first -/
def fieldsOf (ns : List Str) (vs : List V) : List (Str × V) := (ns.zip vs).reverse
def spI (K : Fg) (C : Addr) (ns : List Str) : Sp := fun vs H Q _ => ∃ (a : Addr) (ws : List V) (ds : List D) (B : Addr → Prop), vs = .ref a :: ws ∧ ws.length = ns.length ∧ RA K B H ws ds ∧ (∀ d ∈ ds, (fmtB d).isSome = true) ∧ H a = some (exo a C none) ∧
  ∀ d H2, H d = none → d ≠ a → H2 a = some (exo a C (some d)) → H2 d = some (exd d (fieldsOf ns ws)) → (∀ b, b ≠ a → b ≠ d → H2 b = H b) → Q .non H2
/-- the stores self.n = n, one after the other -/
def tSt1 (K : Fg) (ns : List (Str × Nat)) : TS := fun Dn σ H => match ns with
  | [] => Dn.nx σ H
  | (n, i) :: r => tOst K n (tVar 0) (tVar i) { Dn with nx := fun σ' H' => tSt1 K r Dn σ' H' } σ H
theorem stores_run {K : Fg} {C a d : Addr} {σ : St} {Dn : Ends} (T : OexC K C) (h0 : σ[0]? = some (some (.ref a))) : ∀ (ns : List (Str × Nat)) (ws : List V) (done : List (Str × V)) (H : Hp),
    (∀ p ∈ ns, PySem.W.findIn K (.ref C) p.1 = some none) → ns.length = ws.length → (∀ (j : Nat) (p : Str × Nat) (w : V), ns[j]? = some p → ws[j]? = some w → σ[p.2]? = some (some w)) →
    H a = some (exo a C (some d)) → H d = some (exd d done) → d ≠ a → done.length + ns.length ≤ 900 →
    (∀ H2, H2 a = some (exo a C (some d)) → H2 d = some (exd d ((ns.map (·.1)).zip ws |>.reverse |>.append done)) → (∀ b, b ≠ a → b ≠ d → H2 b = H b) → Dn.nx σ H2) → tSt1 K ns Dn σ H := by
  intro ns
  induction ns with
  | nil =>
    intro ws done H _ hl _ ha hd _ _ q
    cases ws with
    | nil => exact q H ha hd fun _ _ _ => rfl
    | cons _ _ => cases hl
  | cons p ns ih =>
    intro ws done H hno hl hs ha hd ne hlen q
    cases ws with
    | nil => cases hl
    | cons w ws =>
      rw [List.length_cons] at hlen
      refine ⟨w, hs 0 p w rfl rfl, .ref a, h0, a, C, rfl, T, hno p List.mem_cons_self, .inr ⟨d, done, ha, hd, by omega, ?_⟩⟩
      refine ih ws ((p.1, w) :: done) _ (fun p' hp => hno p' (List.mem_cons_of_mem _ hp)) (by simpa using hl) (fun j p' w' h1 h2 => hs (j + 1) p' w' h1 h2) (by rw [upd_ne (Ne.symm ne)]; exact ha) upd_same ne (by rw [List.length_cons]; omega) fun H2 h1 h2 h3 => q H2 h1 ?_ fun b b1 b2 => by rw [h3 b b1 b2, upd_ne b2]
      rw [h2]
      simp [List.append_assoc]
theorem stores_all {K : Fg} {C a : Addr} {σ : St} {Dn : Ends} (T : OexC K C) (h0 : σ[0]? = some (some (.ref a))) {ns : List (Str × Nat)} {ws : List V} {H : Hp}
    (hno : ∀ p ∈ ns, PySem.W.findIn K (.ref C) p.1 = some none) (hl : ns.length = ws.length) (hne : ns ≠ []) (hs : ∀ (j : Nat) (p : Str × Nat) (w : V), ns[j]? = some p → ws[j]? = some w → σ[p.2]? = some (some w)) (ha : H a = some (exo a C none)) (hlen : ns.length ≤ 900)
    (q : ∀ d H2, H d = none → d ≠ a → H2 a = some (exo a C (some d)) → H2 d = some (exd d (fieldsOf (ns.map (·.1)) ws)) → (∀ b, b ≠ a → b ≠ d → H2 b = H b) → Dn.nx σ H2) : tSt1 K ns Dn σ H := by
  cases ns with
  | nil => exact (hne rfl).elim
  | cons p ns =>
    cases ws with
    | nil => cases hl
    | cons w ws =>
      refine ⟨w, hs 0 p w rfl rfl, .ref a, h0, a, C, rfl, T, hno p List.mem_cons_self, .inl ⟨ha, fun d hd ne => ?_⟩⟩
      rw [List.length_cons] at hlen
      refine stores_run T h0 ns ws [(p.1, w)] _ (fun p' hp => hno p' (List.mem_cons_of_mem _ hp)) (by simpa using hl) (fun j p' w' h1 h2 => hs (j + 1) p' w' h1 h2) upd_same (by rw [upd_ne ne, upd_same]) ne (by rw [List.length_singleton]; omega) fun H2 h1 h2 h3 => q d H2 hd ne h1 ?_ fun b b1 b2 => by rw [h3 b b1 b2, upd_ne b1, upd_ne b2]
      rw [h2]
      simp [fieldsOf]
/-- super().__init__(e) as a statement's expression -/
abbrev supC (e : Expr) (p0 p1 p2 pos : Pos) : Expr := .Call (.Attribute (.Call (.Name "super" p0) [] [] p1) "__init__" p2) [e] [] pos
/-- the parameters behind self, at their slots -/
def slotsFrom : Nat → List Str → List (Str × Nat)
  | _, [] => []
  | k, n :: ns => (n, k) :: slotsFrom (k + 1) ns
theorem slots_names : ∀ (k : Nat) (ns : List Str), (slotsFrom k ns).map (·.1) = ns
  | _, [] => rfl
  | k, n :: ns => by rw [slotsFrom, List.map_cons, slots_names (k + 1) ns]
theorem slots_len : ∀ (k : Nat) (ns : List Str), (slotsFrom k ns).length = ns.length
  | _, [] => rfl
  | k, n :: ns => by rw [slotsFrom, List.length_cons, slots_len (k + 1) ns, List.length_cons]
theorem slots_at : ∀ (k : Nat) (ns : List Str) (j : Nat) (p : Str × Nat), (slotsFrom k ns)[j]? = some p → p.2 = k + j
  | _, [], j, p, h => by simp [slotsFrom] at h
  | k, n :: ns, 0, p, h => by cases h; rfl
  | k, n :: ns, j + 1, p, h => by rw [slots_at (k + 1) ns j p h]; omega
def partsOk (n : Nat) (ps : List (Str ⊕ Nat)) : Bool := ps.all fun p => match p with
  | .inl x => decide (x.length ≤ 1000)
  | .inr i => decide (1 ≤ i ∧ i ≤ n)
theorem fn_init {CX : CXT} {P : Program} {w : World} {K : Fg} {mg : Str → Option Value} {base : Heap} {k : Nat} {f cda cc C : Addr} {name qual : Str} {params : Arguments} {scope : Scope} {dV kV doc pm ct oc : Value} {an od : Option Addr} {osl : Array (Option Value)} {N ns : List Str}
    {e : Expr} {p0 p1 p2 p3 p4 : Pos} {stores : List Stmt} {parts : List (Str ⊕ Nat)} {pl : Sem Bool}
    (lk : K.lookup f = some ⟨oc, od, .func (PySem.W.ksFn name qual params (.Expr (supC e p0 p1 p2 p3) p4 :: stores) scope dV kV doc pm an (.ref cda) ct cc), osl⟩) (hcd : PySem.W.codeIn K (.ref cda) qual = true) (hcc : ∃ o v, K.lookup cc = some o ∧ o.data = .cell v)
    (S : NScope N ("self" :: ns) ["__class__"] scope) (su : scope.names.lookup ("super" : Str) = some .globalImplicit) (T : OexC K C) (F : SupF P K mg f cda cc C) (hne : ns ≠ []) (hns : ns.length ≤ 20) (hpl : parts.length ≤ 50) (hpo : partsOk ns.length parts = true) (hno : ∀ n ∈ ns, PySem.W.findIn K (.ref C) n = some none)
    (he : ∀ (A : Around) (outer : List Env) (s : Shared) (H : Hp) (E : XK), A.units + 3 + 2 < cLine → PE (ncx CX P w K mg base N (supN name qual params (.Expr (supC e p0 p1 p2 p3) p4 :: stores) scope cc cda) f A outer s H E) e (fun σ H Q => tJs (parts.map (partT K)) Str.empty σ H fun out H1 => Q (.str out) H1))
    (hst : ∀ (A : Around) (outer : List Env) (s : Shared) (H : Hp) (E : XK), PSs (ncx CX P w K mg base N (supN name qual params (.Expr (supC e p0 p1 p2 p3) p4 :: stores) scope cc cda) f A outer s H E) stores (tSt1 K (slotsFrom 1 ns)))
    (hi : ∀ n : Addr, interactive (envF (supN name qual params (.Expr (supC e p0 p1 p2 p3) p4 :: stores) scope cc cda) f n) = false) (hsw : ∀ n : Addr, swapsWith (supC e p0 p1 p2 p3) none p4.line (envF (supN name qual params (.Expr (supC e p0 p1 p2 p3) p4 :: stores) scope cc cda) f n) = pure false)
    (hev : ∀ n : Addr, eval (supC e p0 p1 p2 p3) (envF (supN name qual params (.Expr (supC e p0 p1 p2 p3) p4 :: stores) scope cc cda) f n) = (do
      let ov ← attributeBase (.Call (.Name "super" p0) [] [] p1) "__init__" (envF (supN name qual params (.Expr (supC e p0 p1 p2 p3) p4 :: stores) scope cc cda) f n) (eval (.Call (.Name "super" p0) [] [] p1) (envF (supN name qual params (.Expr (supC e p0 p1 p2 p3) p4 :: stores) scope cc cda) f n))
      standAt p2.atName
      let (f', first) ← holding [ov] (getMethod ov "__init__" pl)
      callWith p3 f' first (backTo p3 (starEach [e] (envF (supN name qual params (.Expr (supC e p0 p1 p2 p3) p4 :: stores) scope cc cda) f n))) []))
    (hse : ∀ n : Addr, starEach [e] (envF (supN name qual params (.Expr (supC e p0 p1 p2 p3) p4 :: stores) scope cc cda) f n) = (false, eval e (envF (supN name qual params (.Expr (supC e p0 p1 p2 p3) p4 :: stores) scope cc cda) f n)) :: starEach [] (envF (supN name qual params (.Expr (supC e p0 p1 p2 p3) p4 :: stores) scope cc cda) f n)) :
    FnOk P w K mg base CX (k + 1) f (PySem.W.ksFn name qual params (.Expr (supC e p0 p1 p2 p3) p4 :: stores) scope dV kV doc pm an (.ref cda) ct cc) ("self" :: ns) (spI K C ns) := by
  refine fn_sup lk hcd hcc S (fun vs H Q E ⟨a, ws, ds, B, e1, l, _⟩ => by rw [e1, List.length_cons, List.length_cons, l]) fun A outer s H vs Q E hr ⟨a, ws, ds, B, e1, hl, ra, hf, ha, q⟩ s₁ I => ?_
  subst e1
  have hu : A.units + 3 + 2 < cLine := by
    have h1 := hr.un
    have h2 : (A.deeper (envF (supN name qual params (.Expr (supC e p0 p1 p2 p3) p4 :: stores) scope cc cda) f s.heap.objs.size)).units = A.units + 3 := rfl
    omega
  have h0 : (startF N (V.ref a :: ws) [none])[0]? = some (some (.ref a)) := rfl
  have hw : ∀ (j : Nat) (v : V), ws[j]? = some v → (startF N (V.ref a :: ws) [none])[1 + j]? = some (some v) := fun j v hj => by
    have hj2 := (List.getElem?_eq_some_iff.mp hj).1
    unfold startF
    rw [List.getElem?_append_left (by rw [List.length_map, List.length_cons]; omega), List.getElem?_map, Nat.add_comm, List.getElem?_cons_succ, hj]
    rfl
  have nself : N[0]? = some ("self" : Str) := by
    have h1 := congrArg (fun l => l[0]?) S.pre
    simp only [List.cons_append, List.getElem?_cons_zero] at h1
    rw [List.getElem?_take_of_lt (by rw [List.length_cons]; omega)] at h1
    exact h1
  have SE : SupE (ncx CX P w K mg base N (supN name qual params (.Expr (supC e p0 p1 p2 p3) p4 :: stores) scope cc cda) f A outer s H E) f cda cc :=
    ⟨rfl, rfl, su, S.frk _ List.mem_cons_self, by show List.lookup _ [(("__class__" : Str), cc)] = _; simp [List.lookup], S.par _ List.mem_cons_self, nself⟩
  refine ks_wpAt_execs_cons (ks_wpAt_Expr_any (hi := hi _) (hs := hsw _) ?_)
  refine ks_wpAt_mono (sup_eval (Qn := fun H1 => H1 = H) F SE rfl I h0 ha (he A outer s H E hu) (tJs_parts parts Str.empty (fun p hp => ?_) (by show 0 + _ ≤ _; omega) fun m => ⟨Nat.le_refl _, ha, rfl⟩) (hev _) (hse _)) (fun u s2 ⟨v, H1, J, rv, ha1, e1⟩ => ?_) fun _ _ z => z
  · have h1 := List.all_eq_true.mp hpo p hp
    cases p with
    | inl x => exact of_decide_eq_true h1
    | inr i =>
      obtain ⟨i1, i2⟩ : 1 ≤ i ∧ i ≤ ns.length := of_decide_eq_true h1
      have h2 : i - 1 < ds.length := by rw [← ra.length, hl]; omega
      have hd : ds[i - 1]? = some ds[i - 1] := List.getElem?_eq_getElem h2
      obtain ⟨v, hv, rv⟩ := ra.get hd
      obtain ⟨n, hn⟩ := Option.isSome_iff_exists.mp (hf _ (List.getElem_mem h2))
      have h3 := hw _ _ hv
      rw [show 1 + (i - 1) = i by omega] at h3
      exact ⟨v, B, _, n, h3, rv, hn, fmtB_le hn⟩
  · subst e1
    refine wpAt_of_wpAny ((hst A outer s H1 E).run [] s2 _ _ _ J (stores_all T h0 (fun p hp => ?_) (by rw [slots_len, hl]) (fun z => hne ?_) (fun j p v h1 h2 => by rw [slots_at 1 ns j p h1]; exact hw j v h2) ha1 (by rw [slots_len]; omega) fun d H2 h1 h2 h3 h4 h5 => ?_))
    · refine hno _ ?_
      rw [← slots_names 1 ns]
      exact List.mem_map_of_mem hp
    · have h1 := slots_len 1 ns
      rw [z] at h1
      exact List.length_eq_zero_iff.mp h1.symm
    · rw [slots_names] at h4
      exact q d H2 h1 h2 h3 h4 h5
end DD

namespace DD
open PySem PySem.Spec PyProof.Rows L2
section
variable {X : Cx} {CX : CXT} {x : Str} {C fI : Addr} {k : Nat} {fd : FuncData} {ps : List Str} {sp : Sp} {e : Expr} {es : List Expr} {ta : TA} {p pos : Pos}
/-- a new exception of the own class at C, its context None -/
theorem pmk_init (T : OexC X.K C) (iC : PySem.W.findIn X.K (.ref C) "__init__" = some (some (.ref fI))) (tI : PySem.W.typeIn X.K (.ref fI) = some (.type "function")) (F1 : FnOk X.prog X.w X.K X.mg X.base CX k fI fd ps sp)
    (hr : Room (k + 1) X.A) (hb : Binds X.K fd ps []) (hx : Passes CX X fun _ _ _ => False) (hg : Gl X x) (hm : X.mg x = some (.ref C)) (ha : PA X (e :: es) ta) (hdb : (x == ("__debug__" : Str)) = false := by decide)
    (he : starEach (e :: es) X.env = (false, eval e X.env) :: starEach es X.env := by rfl) (hpl : (backTo pos (starEach es X.env)).any (·.1) = false := by rfl) : L2N.PMk X (.Call (.Name x p) (e :: es) [] pos) (tMkO C sp [] ta) := by
  intro pins s σ H Q I h
  obtain ⟨nm, q, N, bs, bm, sn, sub, ab, col, dd, k0, k1, k2, k3, k5, hC, hbm⟩ := T.cls
  refine wpAny_Call_Name_kw (ld_glob I hg hm (PySem.W.callWith_K (h₀ := X.base) I.ok.mod.kin T.kC (thn (ha.run pos pins s σ H _ I h) ?_) he hpl) hdb)
  rintro us ⟨hp, g, dr, tk, os⟩ ⟨vs, H1, I1, r1, hz, q1⟩
  refine ⟨I1.kIn, ?_⟩
  have r0 : Vals (vs ++ []) (us ++ []) := r1.append .nil
  have new : H1 (hp.objs.size + 1) = none := I1.hok.fresh (Nat.le_succ _)
  have want := q1 _ new
  have ho : ((hp.push (PySem.W.kdv_tup us)).push (PySem.HandSPX.excO C hp.objs.size)).get? (hp.objs.size + 1) = some (PySem.HandSPX.excO C hp.objs.size) := by heap_get
  have keep : ∀ b o, hp.get? b = some o → ((hp.push (PySem.W.kdv_tup us)).push (PySem.HandSPX.excO C hp.objs.size)).get? b = some o := fun _ _ z => Heap.get?_push_of_some _ (Heap.get?_push_of_some _ z)
  have I2 := I1.laid (t' := tk) keep (Nat.le_succ _) (exo_ok (H := upd H1 (hp.objs.size + 1) (exo (hp.objs.size + 1) C none)) ho)
  have rr : Vals (V.ref (hp.objs.size + 1) :: (vs ++ [])) (Value.ref (hp.objs.size + 1) :: (us ++ [])) := .cons rfl r0
  have len : (Value.ref (hp.objs.size + 1) :: us ++ []).length = ps.length := by
    rw [← F1.len _ _ _ _ want]
    exact rr.length.symm
  have small : us.length ≤ sizeLine := by
    have := Paired.length r1
    rw [sizeLine_eq]
    omega
  refine wpAny_call (PySem.HandSPX.call_own F.excBase_ValueError (fun Y => PySem.HandSPX.refsVE_contains Y bm hbm) (I1.kIn _ _ hC) (PySem.W.looks_findIn I1.kIn iC) (fun self => PySem.W.bind_fn I1.kIn self tI) small ?_)
  refine codeAny_mono (F1.run _ X.stack _ _ _ _ _ _ (fun _ _ _ => False) (hr.make C us []) (I2.env0.make C us []) (hb _ (Value.ref (hp.objs.size + 1) :: us) I2.kIn len) rr want) ?_
  rintro (er | fl) s' done
  · exact hx pins σ _ _ er s' I2 done
  · cases fl with
    | ret u =>
      obtain ⟨v, H2, os2, bare2, un2, hok2, rv, ev, d, fs, ea, ed, hd1, q2⟩ := done
      subst ev
      obtain ⟨h2, g2, d2, t2, os'⟩ := s'
      obtain ⟨t0, G, J, kG, ge, hoe, na⟩ := mk_end0 (d2 := d2) (t2 := t2) I1 (Nat.le_succ _) keep un2 hok2 os2 bare2 ea ed hd1
      exact ⟨rv, hp.objs.size + 1, _, _, ⟨G, g2, d2, t2, os'⟩, _, .ref C, some d, rfl, J, kG, ge, hoe, ⟨rfl, rfl, fun vs hv => by cases hv; rfl⟩, rfl, rfl, na, rfl, bare2, raises_own T.exC T.tyC, q2⟩
    | next => exact False.elim done
    | brk => exact False.elim done
    | cont => exact False.elim done
end
/-! ### how an exception lies, over data -/
/-- the own classes: where each one stands, its fields in their order -/
abbrev Tab := Str → Option (Addr × List Str)
def CXC (K : Fg) (tab : Tab) : XC := fun c ds cls d H => ∃ (C : Addr) (ns : List Str) (dd : Addr) (vs : List V), tab c = some (C, ns) ∧ cls = .ref C ∧ d = some dd ∧ H dd = some (.xd (fieldsOf ns vs)) ∧ ns.length = vs.length ∧ RA K (fun _ => False) H vs ds
/-- raise c(e, ..) -/
def mRaise (c : Str) (ml : ML) : MS := fun s => match ml s with
  | some ds => if flatD.go ds = true ∧ ds.all (fun d => (fmtB d).isSome) = true ∧ ds.length ≤ 20 then .ex c ds else .no
  | none => .no
/-- what is known of an own class and its __init__ -/
structure ExcK (P : Program) (w : World) (K : Fg) (mg : Str → Option Value) (base : Heap) (k : Nat) (x : Str) (C : Addr) (ns : List Str) : Prop where
  oex : OexC K C
  gC : mg x = some (.ref C)
  init : ∃ (fI : Addr) (fd : FuncData), PySem.W.findIn K (.ref C) "__init__" = some (some (.ref fI)) ∧ PySem.W.typeIn K (.ref fI) = some (.type "function") ∧ FnOk P w K mg base CX0 k fI fd ("self" :: ns) (spI K C ns) ∧ Binds K fd ("self" :: ns) []
section
variable {K : Fg} {X : Cx} {E : XK} {ml : ML} {x : Str} {C : Addr} {ns : List Str} {tab : Tab} {k j : Nat} {e : Expr} {es : List Expr} {p pos pos2 : Pos}
theorem s_raise (T : ExcK X.prog X.w X.K X.mg X.base k x C ns) (hK : X.K = K) (ht : tab x = some (C, ns)) (hc : X.calm = true) (hr : Room j X.A) (hk : k + 1 ≤ j) (tk : L2N.Takes X fun cls d _ H => E cls d H) (hg : Gl X x) (hn : ∀ s ds, ml s = some ds → ds.length = ns.length) (ha : XAb K X (e :: es) ml)
    (hdb : (x == ("__debug__" : Str)) = false := by decide) (he : starEach (e :: es) X.env = (false, eval e X.env) :: starEach es X.env := by rfl) (hpl : (backTo pos (starEach es X.env)).any (·.1) = false := by rfl) :
    XS K (CXC K tab) E X (.Raise (some (.Call (.Name x p) (e :: es) [] pos)) none pos2) (mRaise x ml) := by
  subst hK
  obtain ⟨fI, fd, iC, tI, F1, b⟩ := T.init
  refine ps_imp (L2N.ps_raise hc tk (pmk_init T.oex iC tI F1 (hr.mono hk) b pass0 hg T.gC ha hdb he hpl)) fun Dn σ H ⟨H0, G, s, r, q⟩ => ?_
  unfold mRaise at q
  cases hm : ml s with
  | none => rw [hm] at q; exact q.elim
  | some ds =>
    simp only [hm] at q
    by_cases hf : flatD.go ds = true ∧ ds.all (fun d => (fmtB d).isSome) = true ∧ ds.length ≤ 20
    · rw [if_pos hf] at q
      obtain ⟨hf1, hf2, hf3⟩ := hf
      refine ⟨H0, G, s, ds, r, hm, fun vs H1 e1 rv => ⟨by have := rv.length; omega, fun a hna => ?_⟩⟩
      have hl := hn s ds hm
      have hvl : vs.length = ns.length := rv.length.trans hl
      refine ⟨a, vs ++ [], ds, fun _ => True, rfl, by rw [List.append_nil]; exact hvl, ?_, fun d hd => List.all_eq_true.mp hf2 d hd, upd_same, fun d H2 hd ne h1 h2 h3 => ?_⟩
      · rw [List.append_nil]
        exact (rv.ex (Ex.new hna)).wider fun _ _ => trivial
      · rw [upd_ne ne] at hd
        rw [List.append_nil] at h2
        have ex : Ex H1 (upd (del H2 a) d (.xd (fieldsOf ns vs))) := fun b o hb => by
          have b1 : b ≠ a := fun z => by rw [z, hna] at hb; cases hb
          have b2 : b ≠ d := fun z => by rw [z, hd] at hb; cases hb
          rw [upd_ne b2, del_ne b1, h3 b b1 b2, upd_ne b1]
          exact hb
        refine ⟨rfl, d, fieldsOf ns vs, h1, h2, hd, q _ _ _ (r.ex.trans (e1.trans ex)) ⟨C, ns, d, vs, ht, rfl, rfl, upd_same, hvl.symm, RA.flat _ _ hf1 (rv.ex ex)⟩⟩
    · rw [if_neg hf] at q
      exact q.elim
end
end DD

/-! # Own exceptions over data: let out of a def, caught, looked at -/
namespace DD
open PySem PySem.Spec PyProof.Rows L2
section
variable {P : Program} {w : World} {K : Fg} {mg : Str → Option Value} {base : Heap} {C : XC}
/-- a def that may raise -/
theorem fnX_data {x qual : Str} {st : Stmt} {f : Addr} {fd : FuncData} {N ps : List Str} {k n : Nat} {body : MS} (F : L2.Fun K x qual st f fd) (Sc : FnScope N ps (defScope st)) (hn : ps.length = n) (hN : n ≤ N.length)
    (hb : ∀ (cdv : Value) (A : Around) (outer : List Env) (s : Shared) (H : Hp) (E : XK), Room k (A.deeper (PyProof.Rows.envOfC qual (defScope st) s.heap.objs.size f cdv)) →
      XSs K C E (cxOf (L2N.CX P w) P w K mg base N qual (defScope st) f cdv A outer s H E) (defBody st) body) :
    FnOk P w K mg base (L2N.CX P w) (k + 1) f fd ps (spD K C n (mFn N.length body)) := by
  obtain ⟨oc, od, kV, doc, pm, an, cdv, ct, osl, rfl, lk, hcd⟩ := F.ex
  refine fn_of lk hcd Sc (fun vs H Q E ⟨B, ds, h1, h2, _⟩ => by rw [h2.length, h1, hn]) fun A outer s H vs Q E hr ⟨B, ds, h1, h2, h3⟩ => ⟨_, hb cdv A outer s H E hr, H, fun a => B a ∨ H a = none, startS N.length ds, rs_start h2 (by omega), ?_⟩
  unfold mFn at h3
  cases ho : body (startS N.length ds) with
  | nx s' => rw [ho] at h3; exact fun σ' H' r t => h3 H' r.ex
  | rt d => rw [ho] at h3; exact fun v H' e r => h3 v H' e r
  | rtl es => rw [ho] at h3; exact fun p xs H' hp e h r => h3 p xs H' hp e h r
  | ex c fs => rw [ho] at h3; exact fun cls d H' e q => h3 cls d H' e q
  | bk s' => rw [ho] at h3; exact h3.elim
  | ct s' => rw [ho] at h3; exact h3.elim
  | no => rw [ho] at h3; exact h3.elim
end
/-! ### try: x = f(..) except .. as e: -/
noncomputable def uniO (F : Addr → Addr → Out) : Out := by
  classical
  exact if ∀ a d, F a d = F 0 0 then F 0 0 else .no
theorem uniO_eq {F : Addr → Addr → Out} {o : Out} (h : ∀ a d, F a d = o) : uniO F = o := by
  unfold uniO
  rw [if_pos fun a d => by rw [h a d, h 0 0]]
  exact h 0 0
theorem uniO_ne {F : Addr → Addr → Out} {o : Out} (h : uniO F = o) (ho : o ≠ .no) (a d : Addr) : F a d = o := by
  unfold uniO at h
  split at h
  · rename_i z
    rw [z a d]
    exact h
  · exact (ho h.symm).elim
/-- the name of the clause goes -/
def clearO (j : Nat) : Out → Out
  | .nx s => if unowned s [j] = true then .nx (s.set j none) else .no
  | .bk _ => .no
  | .ct _ => .no
  | .ex _ _ => .no
  | o => o
def fieldsD (ns : List Str) (ds : List D) : List (Str × D) := (ns.zip ds).reverse
theorem zip_fst {α β : Type} : ∀ {as : List α} {bs : List β}, as.length = bs.length → (as.zip bs).map (·.1) = as
  | [], [], _ => rfl
  | a :: as, b :: bs, h => by
    have := zip_fst (as := as) (bs := bs) (by simpa using h)
    simp [this]
theorem zip_snd {α β : Type} : ∀ {as : List α} {bs : List β}, as.length = bs.length → (as.zip bs).map (·.2) = bs
  | [], [], _ => rfl
  | a :: as, b :: bs, h => by
    have := zip_snd (as := as) (bs := bs) (by simpa using h)
    simp [this]
theorem has_exc {K : Fg} {H : Hp} {a dd : Addr} {ns : List Str} {vs : List V} {ds : List D} (h : H dd = some (.xd (fieldsOf ns vs))) (hl : ns.length = vs.length) (ra : RA K (fun _ => False) H vs ds) : HasK K H (.ref a) (.exc a dd (fieldsD ns ds)) := by
  have hl2 : ns.length = ds.length := hl.trans ra.length
  refine ⟨rfl, fieldsOf ns vs, h, ?_, ?_⟩
  · simp only [fieldsOf, fieldsD, List.map_reverse, zip_fst hl, zip_fst hl2]
  · simp only [fieldsOf, fieldsD, List.map_reverse, zip_snd hl, zip_snd hl2]
    exact ra.reverse
theorem Tr.setK {σ : L2.St} {s : S} {H : Hp} {v : Option V} {kd : Kd} (i : Nat) : Tr σ s H (σ.set i v) (s.set i (some (.kd kd))) H := fun a o h n => ⟨h, fun ⟨j, ds, h1, h2⟩ => by
  rcases get_set h1 with ⟨_, z, _⟩ | ⟨hj, h1⟩
  · cases z
  · rcases get_set h2 with ⟨z, _⟩ | ⟨_, h2⟩
    · exact hj z
    · exact n ⟨j, ds, h1, h2⟩⟩
theorem clear_post {K : Fg} {C : XC} {E : XK} {G : Addr → Prop} {H0 H H1 : Hp} {σ σ1 : L2.St} {s s1 : S} {Dn : Ends} {j : Nat} {o : Out} (ho : clearO j o ≠ .no) (h : Post K H0 G C E σ s H Dn (clearO j o)) (t : Tr σ s H σ1 s1 H1) :
    Post K H0 G C0 E0 σ1 s1 H1 { nx := fun σ' H' => Dn.nx (σ'.set j none) H', rt := Dn.rt, bk := fun σ' H' => Dn.bk (σ'.set j none) H', ct := fun σ' H' => Dn.ct (σ'.set j none) H' } o := by
  cases o with
  | nx s2 =>
    by_cases hun : unowned s2 [j] = true
    · have e : clearO j (.nx s2) = .nx (s2.set j none) := if_pos hun
      rw [e] at h
      intro σ3 H3 r3 t3
      obtain ⟨f1, f2⟩ := r3.forget fun es => unowned_at hun List.mem_cons_self es
      exact h _ _ f1 ((t.trans t3).trans fun b o hb nb => ⟨hb, fun ow => nb ((f2 b).mp ow)⟩)
    · exact (ho (if_neg hun)).elim
  | rt d => exact h
  | rtl ds => exact h
  | bk s2 => exact (ho rfl).elim
  | ct s2 => exact (ho rfl).elim
  | ex c fs => exact (ho rfl).elim
  | no => exact (ho rfl).elim
/-- the value that x gets -/
def callR : Out → Option D
  | .nx _ => some .none
  | .rt d => guard flatD d
  | .rtl es => if flatD.go es = true then some (.list es) else none
  | _ => none
noncomputable def mTry1 (i j n : Nat) (f : MF) (ml : ML) (names : Str → List Str) (hit : Str → Bool) (ms : Str → Addr → Addr → MS) : MS := fun s => match ml s with
  | none => .no
  | some ds => if ds.length = n then (match f ds with
    | .ex c fs => if hit c = true then uniO fun a dd => clearO j (ms c a dd (s.set j (some (.kd (.exc a dd (fieldsD (names c) fs)))))) else .no
    | o => match callR o with
      | some d => .nx (s.set i (some (.sh d)))
      | none => .no) else .no
theorem passN {X : Cx} {W : WX} (tk : L2N.Takes X W) (σ : L2.St) : PassesAt (L2N.CX X.prog X.w) X σ (WE W σ) := fun _ _ _ e s' I c => tk e s' (L2N.XE.of_call I (fun _ _ _ h => h) c)
theorem takesN0 {X : Cx} : L2N.Takes X (fun _ _ _ _ => False) := fun _ _ ⟨_, _, _, _, _, _, _, _, _, _, _, _, _, _, _, _, w⟩ => w.elim
section
variable {K : Fg} {X : Cx} {C : XC} {E : XK} {ml : ML} {x cx nm : Str} {tab : Tab} {k k' n i j : Nat} {f : MF} {e : Expr} {es : List Expr} {p np pos pos' : Pos} {st b₀ : Stmt} {suite : List Stmt} {names : Str → List Str} {hit : Str → Bool} {ms : Str → Addr → Addr → MS} {cv : Value}
/-- f(..), what it raises is wished for at the slots -/
theorem call_at {X : Cx} {W : WX} {C : XC} (c : Cal X.prog X.w X.K X.mg X.base (L2N.CX X.prog X.w) C k x n f) (tk : L2N.Takes X W) (hr : Room k' X.A) (hk : k ≤ k') (hg : Gl X x) (ha : XAb X.K X (e :: es) ml) (hdb : (x == ("__debug__" : Str)) = false := by decide)
    (he : starEach (e :: es) X.env = (false, eval e X.env) :: starEach es X.env := by rfl) (hpl : (backTo p (starEach es X.env)).any (·.1) = false := by rfl) : PE X (.Call (.Name x np) (e :: es) [] p) (tCallSD (spD X.K C n f) [] (WE W) (tAb X.K ml)) := by
  obtain ⟨g, fd, ps, F, hm, hkp, hb⟩ := c.ex
  exact pe_callSD (F.mono hk) hr hg hm hkp hb .nil (fun σ => passN tk σ) ha hdb he hpl
theorem s_try1 (hK : X.K = K) (hs : X.stack = X.env :: X.outer) (hf : X.env.frame = some X.env.locals) (hN : X.N.Nodup) (hj : X.N[j]? = some nm) (hln : X.env.kindOf nm = some .local) (hc : Names X cx cv)
    (hset : ∀ (W : WX) (pn : List (Addr × Obj)) (xe : Value → Shared → Prop), L2N.Takes (X.tr pn xe) W → PS (X.tr pn xe) st (tAsg (tCallSD (spD K (CXC K tab) n f) [] (WE W) (tAb K ml)) (gName i)))
    (hex : ∀ c C ns, tab c = some (C, ns) → hit c = true → PySem.W.exmOne K (.ref C) cv = some true ∧ ns = names c)
    (hsu : ∀ (c : Str) (Ca a dd : Addr) (ns : List Str) (oe : Obj) (pn : List (Addr × Obj)), tab c = some (Ca, ns) → hit c = true → L2N.Zn (.ref Ca) (some dd) oe → (∃ vs, oe.data = .fields vs) → XSs K C0 E0 (X.suite a ((a, oe) :: pn)) (b₀ :: suite) (ms c a dd)) :
    XS K C E X (.Try [st] [.ExceptHandler (some (.Name cx np)) (some nm) (b₀ :: suite) pos'] [] [] pos) (mTry1 i j n f ml names hit ms) := by
  subst hK
  refine ps_imp (L2N.ps_try_as (i := j) (Wout := fun _ _ _ _ => False) (tb := fun W => tAsg (tCallSD (spD X.K (CXC X.K tab) n f) [] (WE W) (tAb X.K ml)) (gName i))
    (ts := fun a cls d Dn σ H => ∃ c C ns dd, cls = .ref C ∧ d = some dd ∧ tab c = some (C, ns) ∧ hit c = true ∧ sD X.K C0 E0 (ms c a dd) Dn σ H) hs hf hN hj hln hc takesN0 (fun W pn xe tk _ => pss_one (hset W pn xe tk)) ?_) ?_
  · intro a oe cls d pn hz hfl
    refine ⟨fun pins s σ H Dn I h => ?_⟩
    obtain ⟨c, C, ns, dd, rfl, rfl, h1, h2, h3⟩ := h
    exact (hsu c C a dd ns oe pn h1 h2 hz hfl).run pins s σ H Dn I h3
  · intro Dn σ H ⟨H0, G, s, r, q⟩
    unfold mTry1 at q
    cases hm : ml s with
    | none => rw [hm] at q; exact q.elim
    | some ds =>
      simp only [hm] at q
      by_cases hn : ds.length = n
      · rw [if_pos hn] at q
        refine ⟨H0, G, s, ds, r, hm, fun vs H1 e1 rv => ⟨fun _ => True, ds, hn, by rw [List.append_nil]; exact rv, ?_⟩⟩
        have r1 := r.mono e1
        have norm : ∀ {o : Out} {d : D}, callR o = some d → Post X.K H0 G C E σ s H Dn (match callR o with
            | some d => .nx (s.set i (some (.sh d)))
            | none => .no) → ∀ v H2, Ex H1 H2 → R X.K (Cl G σ s) H2 v d → Dn.nx (σ.set i (some v)) H2 := fun {o d} ho hq v H2 e2 hv => by
          rw [ho] at hq
          exact hq _ H2 ((r1.mono e2).set i hv) ((Tr.set (H := H2) i).ex (e1.trans e2))
        cases ho : f ds with
        | nx s' =>
          rw [ho] at q
          exact fun H2 e2 => norm (o := .nx s') rfl q _ H2 e2 .non
        | rt d =>
          rw [ho] at q
          dsimp only at q
          cases hcr : callR (.rt d) with
          | none => rw [hcr] at q; exact q.elim
          | some d' =>
            have hcr' := hcr
            obtain ⟨hfd, e⟩ := if_some (show (if flatD d = true then some d else none) = some d' from hcr')
            cases e
            exact fun v H2 e2 hv => norm (o := .rt d) hcr q _ H2 e2 (R.flat _ _ hfd hv)
        | rtl es =>
          rw [ho] at q
          dsimp only at q
          cases hcr : callR (.rtl es) with
          | none => rw [hcr] at q; exact q.elim
          | some d' =>
            have hcr' := hcr
            obtain ⟨hfd, e⟩ := if_some (show (if flatD.go es = true then some (PyData.list es) else none) = some d' from hcr')
            cases e
            exact fun p xs H2 hp e2 h2 ra => norm (o := .rtl es) hcr q _ H2 e2 (.lst (.inl ⟨⟨r1.new p hp, r1.own_not hp⟩, .inl h2⟩) (RA.flat _ _ hfd ra))
        | ex c fs =>
          rw [ho] at q
          dsimp only at q
          by_cases hh : hit c = true
          · rw [if_pos hh] at q
            rintro cls d H2 e2 ⟨Ca, ns, dd, us, ht, rfl, rfl, hd, hl, ra⟩
            obtain ⟨x1, x2⟩ := hex c Ca ns ht hh
            refine ⟨true, x1, fun _ a na => ⟨c, Ca, ns, dd, rfl, rfl, ht, hh, H0, G, _, (r1.mono e2).setS j (has_exc (a := a) hd hl ra), ?_⟩, fun z => nomatch z⟩
            rw [x2]
            have tr : Tr σ s H (σ.set j (some (V.ref a))) (s.set j (some (.kd (.exc a dd (fieldsD (names c) fs))))) H2 := (Tr.setK (H := H2) j).ex (e1.trans e2)
            generalize hu : (uniO fun a dd => clearO j (ms c a dd (s.set j (some (.kd (.exc a dd (fieldsD (names c) fs))))))) = o at q
            by_cases hno : o = .no
            · rw [hno] at q; exact q.elim
            · have h5 := uniO_ne hu hno a dd
              exact clear_post (by rw [h5]; exact hno) (by rw [h5]; exact q) tr
          · rw [if_neg hh] at q
            exact q.elim
        | bk s' => rw [ho] at q; exact q.elim
        | ct s' => rw [ho] at q; exact q.elim
        | no => rw [ho] at q; exact q.elim
      · rw [if_neg hn] at q
        exact q.elim
end
end DD

/-! # Within an except suite: the exception looked at, defs called -/
namespace DD
open PySem PySem.Spec PyProof.Rows L2 L2H
/-- what an own class must say for its instances to be read and asked -/
structure ExcR (K : Fg) (C : Addr) : Prop where
  xf : XfC K C
  isC : (PySem.W.clsIn K C).isSome = true
  ha : PySem.W.findIn K (.ref C) "__class__" = some (some (.builtin "object.__class__"))
  hn : PySem.W.specialIn K (.builtin "object.__class__") "__get__" = some (some (.builtin "getset_descriptor.__get__"))
  ht : PySem.W.takesIn K (.builtin "object.__class__") = some true
  hm : PySem.W.mroIn K C (.type "object") = some true
/-- isinstance(e, c) of the exception at a, its dict at dd -/
def rIsX (K : Fg) (C a dd : Addr) : List V → Hp → VK → Prop := fun xs H Q => ∃ (c : V) (cv : Value) (b : Bool) (fs : List (Str × V)), xs = [.ref a, c] ∧ (∀ u, RelV c u → u = cv) ∧ PySem.W.kitOne K (.ref C) cv = some b ∧ H dd = some (.xd fs) ∧ Q (.bl b) H
section
variable {X : Cx} {a dd C : Addr} {oe : Obj} {pn : List (Addr × Obj)}
theorem call_isX (T : ExcR X.K C) (hz : L2N.Zn (.ref C) (some dd) oe) (hf : ∃ vs, oe.data = .fields vs) : CallR (X.suite a ((a, oe) :: pn)) (.builtin "isinstance") (rIsX X.K C a dd) := by
  rintro pins s σ H xs us Q I r ⟨c, cv, b, fs, rfl, hcv, e, hdd, q⟩
  obtain ⟨u1, u2, rfl, r1, r2⟩ := vals2 r
  cases (show u1 = Value.ref a from r1)
  have ec := hcv _ r2
  subst ec
  obtain ⟨hget, _⟩ := I.pin (a, oe) (List.mem_append_left _ List.mem_cons_self)
  obtain ⟨vs, hv⟩ := hf
  have hx : ObjOk X.prog X.w H s.heap dd (.xd fs) := I.hok dd _ hdd
  obtain ⟨mA, hns, _⟩ := hx
  obtain ⟨od, ho, _⟩ := lookIn_ns hns
  have J : PySem.W.InstAt s.heap a oe C (some od) := ⟨hget, hz.1, by unfold PySem.W.notCls; rw [hv] <;> rfl, by rw [hz.2.1]; exact ho⟩
  exact PySem.W.kia_one (PySem.W.kitx_exc (gt := none) T.isC T.xf.ga T.xf.gg T.xf.exC T.ha T.hn T.ht T.hm) I.kIn J e (fun z => nomatch z) fun tk => ⟨.bl b, H, I.tok tk, rfl, q⟩
end
def mIsE (a dd : Addr) (j : Nat) (b : Bool) : M := fun s => match s[j]? with
  | some (some (.kd (.exc a' d' _))) => if a' = a ∧ d' = dd then some (.bool b) else none
  | _ => none
def mXf (a dd : Addr) (j : Nat) (n : Str) : M := fun s => match s[j]? with
  | some (some (.kd (.exc a' d' fs))) => if a' = a ∧ d' = dd then fs.lookup n else none
  | _ => none
theorem xd_look {K : Fg} {B : Addr → Prop} {H : Hp} {n : Str} {d : D} : ∀ {vs : List (Str × V)} {fs : List (Str × D)}, vs.map (·.1) = fs.map (·.1) → RA K B H (vs.map (·.2)) (fs.map (·.2)) → fs.lookup n = some d → ∃ v, vs.lookup n = some v ∧ R K B H v d
  | [], [], _, _, h => by cases h
  | [], _ :: _, z, _, _ => by cases z
  | _ :: _, [], z, _, _ => by cases z
  | (k, v) :: vs, (k', d') :: fs, z, r, h => by
    simp only [List.map_cons, List.cons.injEq] at z
    obtain ⟨rfl, z⟩ := z
    simp only [List.map_cons] at r
    cases r with
    | cons r1 r2 =>
      rw [List.lookup_cons] at h ⊢
      split at h
      · rename_i e
        cases h
        exact ⟨v, rfl, r1⟩
      · exact xd_look z r2 h
section
variable {K : Fg} {X : Cx} {a dd C : Addr} {oe : Obj} {pn : List (Addr × Obj)} {j : Nat} {ea eb : Expr} {p pos : Pos} {n : Str} {c : V} {cv : Value} {b : Bool}
theorem x_isE (T : ExcR X.K C) (hz : L2N.Zn (.ref C) (some dd) oe) (hf : ∃ vs, oe.data = .fields vs) (hK : X.K = K) (hg : Gl X "isinstance") (hm : X.mg "isinstance" = none) (ha : PE (X.suite a ((a, oe) :: pn)) ea (tVar j)) (hb : PE (X.suite a ((a, oe) :: pn)) eb (tC c)) (hcv : ∀ u, RelV c u → u = cv) (hk : PySem.W.kitOne X.K (.ref C) cv = some b)
    (he : starEach [ea, eb] X.env = (false, eval ea X.env) :: starEach [eb] X.env := by rfl) (hpl : (backTo pos (starEach [eb] X.env)).any (·.1) = false := by rfl) (hb2 : starEach [eb] X.env = (false, eval eb X.env) :: starEach [] X.env := by rfl) :
    XE K (X.suite a ((a, oe) :: pn)) (.Call (.Name "isinstance" p) [ea, eb] [] pos) (mIsE a dd j b) := by
  subst hK
  refine pe_imp (pe_callB (call_isX T hz hf) hg hm (by decide +kernel) (pa_cons ha (pa_cons hb pa_nil hb2) he) (by decide) (by decide) he hpl) fun σ H Q ⟨H0, G, s, d, r, e, q⟩ => ?_
  unfold mIsE at e
  split at e
  · rename_i a' d' fs hj
    obtain ⟨⟨z1, z2⟩, e'⟩ := if_some e
    subst z1 z2
    cases e'
    obtain ⟨v, h1, rfl, vs, h2, _⟩ := r.st j _ hj
    exact ⟨_, h1, c, cv, b, vs, rfl, hcv, hk, h2, q _ H (Ex.refl _) (.bl b)⟩
  · cases e
theorem x_xf (T : XfC X.K C) (hno : PySem.W.findIn X.K (.ref C) n = some none) (hz : L2N.Zn (.ref C) (some dd) oe) (hf : ∃ vs, oe.data = .fields vs) (hK : X.K = K) (ha : PE (X.suite a ((a, oe) :: pn)) ea (tVar j)) (hb : attributeBase ea n X.env (eval ea X.env) = eval ea X.env := by rfl) :
    XE K (X.suite a ((a, oe) :: pn)) (.Attribute ea n pos) (mXf a dd j n) := by
  subst hK
  refine pe_imp (pe_xf T hno hz.zc hf ha hb) fun σ H Q ⟨H0, G, s, d, r, e, q⟩ => ?_
  unfold mXf at e
  split at e
  · rename_i a' d' fs hj
    obtain ⟨⟨z1, z2⟩, e'⟩ := if_some e
    subst z1 z2
    obtain ⟨v, h1, rfl, vs, h2, h3, h4⟩ := r.st j _ hj
    obtain ⟨u, l1, l2⟩ := xd_look h3 h4 e'
    exact ⟨_, h1, rfl, rfl, d', vs, u, rfl, h2, l1, q _ H (Ex.refl _) (l2.wider fun _ z => z.elim)⟩
  · cases e
end
/-! ### defs there -/
structure CalH (P : Program) (w : World) (K : Fg) (mg : Str → Option Value) (base : Heap) (C : XC) (k : Nat) (x : Str) (n : Nat) (m : MF) : Prop where
  ex : ∃ f fd ps, FnH P w K mg base CX0 k f fd ps (spD K C n m) ∧ mg x = some (.ref f) ∧ PySem.W.keepIn K (.ref f) = true ∧ Binds K fd ps []
theorem calH_of {P : Program} {w : World} {K : Fg} {mg : Str → Option Value} {base : Heap} {C : XC} {k n : Nat} {x : Str} {m : MF} {f : Addr} {fd : FuncData} {ps : List Str} (F : FnH P w K mg base CX0 k f fd ps (spD K C n m)) (hm : mg x = some (.ref f)) (hk : PySem.W.keepIn K (.ref f) = true) (hb : Binds K fd ps []) : CalH P w K mg base C k x n m := ⟨f, fd, ps, F, hm, hk, hb⟩
theorem FnH.mono' {P : Program} {w : World} {K : Fg} {mg : Str → Option Value} {base : Heap} {CX : CXT} {j k : Nat} {f : Addr} {fd : FuncData} {ps : List Str} {sp : Sp} (F : FnH P w K mg base CX j f fd ps sp) (h : j ≤ k) : FnH P w K mg base CX k f fd ps sp :=
  ⟨F.len, fun A outer s H args us vs Q E q hr => F.run A outer s H args us vs Q E q (hr.mono h)⟩
theorem fnH_data {P : Program} {w : World} {K : Fg} {mg : Str → Option Value} {base : Heap} {C : XC} {x qual : Str} {st : Stmt} {f : Addr} {fd : FuncData} {N ps : List Str} {k n : Nat} {body : MS} (F : L2.Fun K x qual st f fd) (Sc : FnScope N ps (defScope st)) (hn : ps.length = n) (hN : n ≤ N.length)
    (hb : ∀ (cdv : Value) (A : Around) (outer : List Env) (s : Shared) (H : Hp) (E : XK) (q : Addr × Obj), Hot1 A q → RoomH k (A.deeper (PyProof.Rows.envOfC qual (defScope st) s.heap.objs.size f cdv)) →
      XSs K C E (cxH CX0 P w K mg base N qual (defScope st) f cdv A outer s H E q) (defBody st) body) :
    FnH P w K mg base CX0 (k + 1) f fd ps (spD K C n (mFn N.length body)) := by
  obtain ⟨oc, od, kV, doc, pm, an, cdv, ct, osl, rfl, lk, hcd⟩ := F.ex
  refine fn_ofH lk hcd Sc (fun vs H Q E ⟨B, ds, h1, h2, _⟩ => by rw [h2.length, h1, hn]) fun A outer s H vs Q E q hot hr ⟨B, ds, h1, h2, h3⟩ => ⟨_, hb cdv A outer s H E q hot hr, H, fun a => B a ∨ H a = none, startS N.length ds, rs_start h2 (by omega), ?_⟩
  unfold mFn at h3
  cases ho : body (startS N.length ds) with
  | nx s' => rw [ho] at h3; exact fun σ' H' r t => h3 H' r.ex
  | rt d => rw [ho] at h3; exact fun v H' e r => h3 v H' e r
  | rtl es => rw [ho] at h3; exact fun p xs H' hp e h r => h3 p xs H' hp e h r
  | ex c fs => rw [ho] at h3; exact fun cls d H' e q => h3 cls d H' e q
  | bk s' => rw [ho] at h3; exact h3.elim
  | ct s' => rw [ho] at h3; exact h3.elim
  | no => rw [ho] at h3; exact h3.elim
section
variable {K : Fg} {X : Cx} {C : XC} {ml : ML} {x : Str} {k k' n : Nat} {f : MF} {e : Expr} {es : List Expr} {p pos : Pos}
theorem x_callH (c : CalH X.prog X.w K X.mg X.base C k x n f) (hr : RoomH k' X.A) (hk : k ≤ k') (hc : HotC X) (hK : X.K = K) (hg : Gl X x) (ha : XAb K X (e :: es) ml) (hdb : (x == ("__debug__" : Str)) = false := by decide)
    (he : starEach (e :: es) X.env = (false, eval e X.env) :: starEach es X.env := by rfl) (hpl : (backTo pos (starEach es X.env)).any (·.1) = false := by rfl) : XE K X (.Call (.Name x p) (e :: es) [] pos) (mCallB n f ml) := by
  subst hK
  obtain ⟨g, fd, ps, F, hm, hkp, hb⟩ := c.ex
  refine pe_imp (pe_callH (E := fun _ _ _ _ => False) (FnH.mono' F hk) hr hc hg hm hkp hb (fun σ pins H s e s' I z => z.elim) ha hdb he hpl) fun σ H Q h => ?_
  have h2 : tCall (spD X.K C n f) [] (fun _ _ _ => False) (tAb X.K ml) σ H Q := rdCallB h
  obtain ⟨H0, G, s, ds, r, e1, q⟩ := h2
  refine ⟨H0, G, s, ds, r, e1, fun vs H1 e2 rv => ?_⟩
  have h3 : spD X.K C n f (vs ++ []) H1 Q fun _ _ _ => False := q vs H1 e2 rv
  rw [List.append_nil] at h3
  exact h3
end
theorem hotS {X : Cx} {a : Addr} {oe : Obj} {pn : List (Addr × Obj)} {cls : Value} {d : Option Addr} (hz : L2N.Zn cls d oe) (hf : ∃ vs, oe.data = .fields vs) : HotC (X.suite a ((a, oe) :: pn)) := by
  obtain ⟨vs, hv⟩ := hf
  exact ⟨(a, oe), ⟨rfl, vs, hv, hz.2.2 vs hv⟩, List.mem_cons_self⟩
theorem hotF {CX : CXT} {P : Program} {w : World} {K : Fg} {mg : Str → Option Value} {base : Heap} {N : List Str} {qual : Str} {sc : Scope} {f : Addr} {cd : Value} {A : Around} {outer : List Env} {s : Shared} {H : Hp} {E : XK} {q : Addr × Obj} (h : Hot1 A q) : HotC (cxH CX P w K mg base N qual sc f cd A outer s H E q) :=
  ⟨q, ⟨h.1, h.2⟩, List.mem_cons_self⟩
/-! ### == of whole numbers, without a word on room -/
def fEqI : D → D → Option D
  | .int i, .int j => some (.bool (decide (i = j)))
  | _, _ => none
section
variable {K : Fg} {X : Cx} {a b : Expr} {ma mb : M} {pos : Pos}
theorem x_eqI (ha : XB K X a ma) (hb : XB K X b mb) : XE K X (.Compare a [.Eq] [b] pos) (m2 fEqI ma mb) := by
  refine x_cmp op_eq ?_ ha hb (nomark _)
  intro H x y d e z hx hy h
  unfold fEqI at h
  split at h
  · cases h
    cases hx; cases hy
    rename_i i j
    refine ⟨.bl (decide (i = j)), .bl _, fun Q q => ?_⟩
    refine ⟨by trivial, ?_⟩
    rw [show decide (V.int i = V.int j) = decide (i = j) by simp]
    exact q
  · cases h
end
end DD

/-! # Pairs walked, texts, tuples turned, a table of the written part -/
namespace DD
open PySem PySem.Spec PyProof.Rows L2
section
variable {K : Fg} {X : Cx} {C : XC} {E : XK} {H0 H H' H1 H2 : Hp} {G B : Addr → Prop} {σ : L2.St} {s : S} {tg e a b : Expr} {m ma mb : M} {ml : ML} {pos p p2 : Pos} {es : List Expr}
/-! ### items that stand in pairs made anew -/
def RP (K : Fg) : Rl := fun B H v d => ∃ (t : Addr) (xs : List V) (ds : List D), v = .ref t ∧ d = .tuple ds ∧ SqT K H t xs ∧ RA K B H xs ds
theorem wideP (K : Fg) : Wide (RP K) := ⟨fun _ _ _ _ _ h ⟨t, xs, ds, h1, h2, h3, h4⟩ => ⟨t, xs, ds, h1, h2, h3, h4.wider h⟩⟩
theorem g_seqP {ts : List Nat} {k n : Nat} {g : MGs} (hK : X.K = K) (hc : X.calm = true) (h : XGs K X es ts g) (hn : (assignEach es X.env).length = n := by rfl) (hst : (assignEach es X.env).findIdx? (·.1) = none := by rfl) : PG X (.Tuple es k pos) (gDr (RP K) K ts (gSeq n g)) := by
  subst hK
  refine ⟨fun pins s σ H v u Q I r ⟨H0, G, sd, d, s', rs, ⟨t, xs, ds, e1, e2, hq, ra⟩, e0, q⟩ => ?_⟩
  subst e1 e2
  obtain ⟨ds', ed, e1⟩ := some_bind e0
  cases ed
  obtain ⟨hl, e2⟩ := if_some e1
  exact (pg_tup hc h hn hst).run pins s σ H _ u Q I r ⟨_, _, rfl, hq, ra.length.trans hl, H0, G, sd, _, s', rs, ra, e2, q⟩
theorem l_lcP {elt iter : Expr} {ifs : List Expr} {scope : Scope} {own : List (Str × Nat)} {mi : ML} {g : MG} {ts : List Nat} {mt : MB} {me : M} (hc : X.calm = true) (hN : X.N.Nodup) (hi : PI X tg iter (iDr (RP K) K mi)) (ok : BlkOk X.N X.env.scope scope own)
    (hg : ∀ (s : Shared) (H : Hp) (C : Addr) (cl : List (Str × Addr)) (fp : List Addr), PG (X.blk s H scope (compEnvC scope cl C X.env) fp) tg (gDr (RP K) K ts g)) (ht : ∀ (s : Shared) (H : Hp) (C : Addr) (cl : List (Str × Addr)) (fp : List Addr), XTs K (X.blk s H scope (compEnvC scope cl C X.env) fp) ifs mt)
    (he : ∀ (s : Shared) (H : Hp) (C : Addr) (cl : List (Str × Addr)) (fp : List Addr), XE K (X.blk s H scope (compEnvC scope cl C X.env) fp) elt me) (hts : ∀ t ∈ ts, t ∈ own.map (·.2)) (hs : ∀ x, foldedSetIterable iter X.env x = pure x := by intro _; rfl) :
    XL K X (.ListComp elt [⟨tg, iter, ifs, 0⟩] scope pos) (mLc mi g mt me (own.map (·.2))) := pe_imp (pe_lc hc hN hi ok hg ht he hs) fun _ _ _ h => rdLcR (wideP K) hts h
/-- zip(x, y) of two lists, or of two tuples -/
def zipD : List D → List D → List D
  | d :: ds, e :: es => .tuple [d, e] :: zipD ds es
  | _, _ => []
theorem zipD_get : ∀ {ds es : List D} {i : Nat} {d : D}, (zipD ds es)[i]? = some d → ∃ x y, ds[i]? = some x ∧ es[i]? = some y ∧ d = .tuple [x, y]
  | [], _, i, d, h => by cases h
  | _ :: _, [], i, d, h => by cases h
  | x :: ds, y :: es, 0, d, h => by cases h; exact ⟨x, y, rfl, rfl, rfl⟩
  | x :: ds, y :: es, i + 1, d, h => zipD_get (ds := ds) (es := es) (i := i) h
theorem zipD_len : ∀ {ds es : List D}, ds.length ≤ (zipD ds es).length ∨ es.length ≤ (zipD ds es).length
  | [], _ => .inl (Nat.zero_le _)
  | _ :: _, [] => .inr (Nat.zero_le _)
  | _ :: ds, _ :: es => by
    simp only [zipD, List.length_cons]
    rcases zipD_len (ds := ds) (es := es) with h | h
    · exact .inl (by omega)
    · exact .inr (by omega)
def iZipTD (ml : ML) : ML := fun s => (ml s).bind fun ds => match ds with
  | [.tuple xs, .tuple ys] => some (zipD xs ys)
  | _ => none
theorem pair_new {K : Fg} {H : Hp} {T : Addr} {x y : V} {d e : D} {B : Addr → Prop} (hT : H T = none) (hx : R K B H x d) (hy : R K B H y e) : RP K B (upd H T (.tup [x, y])) (.ref T) (.tuple [d, e]) :=
  ⟨T, [x, y], [d, e], rfl, rfl, .inl (.inl upd_same), .cons (hx.ex (Ex.new hT)) (.cons (hy.ex (Ex.new hT)) .nil)⟩
theorem i_zipT {elts : List Expr} {kk : Nat} {tpos : Pos} (hK : X.K = K) (hg : Gl X "zip") (hm : X.mg "zip" = none) (ha : XA K X [a, b] ml) (hs : starEach [a, b] X.env = (false, eval a X.env) :: starEach [b] X.env := by rfl) (hpl : (backTo pos (starEach [b] X.env)).any (·.1) = false := by rfl) :
    PI X (.Tuple elts kk tpos) (.Call (.Name "zip" p) [a, b] [] pos) (iDr (RP K) K (iZipTD ml)) := by
  subst hK
  refine ⟨fun pins s σ H Rr I ⟨H0, G, sd, ds, r, e0, q⟩ => (RZ.pi_zipA hg hm ha hs hpl).run pins s σ H Rr I ?_⟩
  obtain ⟨es, ee, e3⟩ := some_bind e0
  clear e0
  refine ⟨H0, G, sd, es, r, ee, fun vs H1 e2 rv => ?_⟩
  split at e3
  · cases e3
    rename_i xs ys
    obtain ⟨v, u, rfl, r1, r2⟩ := rv.two
    cases r1 with
    | tup t1 a1 =>
      rename_i ta tx
      cases r2 with
      | tup t2 a2 =>
        rename_i tb ty
        have st1 : ∀ H2, Kp σ sd H1 H2 → SqT X.K H2 ta tx := fun H2 k => (k.sqt (r.mono e2) t1).sqt
        have st2 : ∀ H2, Kp σ sd H1 H2 → SqT X.K H2 tb ty := fun H2 k => (k.sqt (r.mono e2) t2).sqt
        refine ⟨ta, tb, tx, ty, rfl, .inr ⟨t1.sqt, t2.sqt, q _ H1 e2 ⟨fun i d H2 hd k => ?_, fun i d H2 x H3 hd k y => ?_, fun H2 k => ⟨tx, ty, st1 H2 k, st2 H2 k, ?_⟩⟩⟩⟩
        · obtain ⟨x, y, hx, hy, _⟩ := zipD_get hd
          obtain ⟨v, hv, _⟩ := a1.get hx
          obtain ⟨u, hu, _⟩ := a2.get hy
          exact ⟨tx, ty, v, u, st1 H2 k, st2 H2 k, hv, hu⟩
        · obtain ⟨T, v, u, rfl, hT, rfl, h1, h2⟩ := y
          obtain ⟨x, y, hx, hy, rfl⟩ := zipD_get hd
          obtain ⟨v', hv, rv⟩ := a1.get hx
          obtain ⟨u', hu, ru⟩ := a2.get hy
          have w1 := h1 tx (st1 _ k)
          have w2 := h2 ty (st2 _ k)
          rw [hv] at w1; cases w1
          rw [hu] at w2; cases w2
          exact ⟨Ex.new hT, pair_new hT (R.kp (r.mono e2) k rv) (R.kp (r.mono e2) k ru)⟩
        · rw [a1.length, a2.length]
          exact zipD_len
  · cases e3

/-! ### texts -/
def strsD : List D → Option (List Str)
  | [] => some []
  | .str x :: r => (strsD r).map (x :: ·)
  | _ => none
theorem RA.strsD : ∀ {ds : List D} {vs : List V} {ys : List Str}, RA K B H vs ds → strsD ds = some ys → vs = ys.map V.str
  | [], _, _, .nil, h => by cases h; rfl
  | d :: ds, _, ys, .cons h1 h2, h => by
    unfold DD.strsD at h
    split at h
    · rename_i z; cases z
    · rename_i x r z
      cases z
      obtain ⟨ys', h3, rfl⟩ := opt_map h
      cases h1
      rw [RA.strsD h2 h3]
      rfl
    · cases h
/-- '..'.join(x) -/
def mJoin (sep : Str) (m : M) : M := fun s => (m s).bind fun d => (items d).bind fun ds => (strsD ds).bind fun ys => if (ys.map (·.length)).sum + ys.length * sep.length ≤ 100000 ∧ (PyData.str (Txt.join sep ys)).canLay0 = true then some (.str (Txt.join sep ys)) else none
theorem x_join {sep : Str} {k1 : Nat} {p1 apos : Pos} (hK : X.K = K) (ha : XB K X e m) (hs : starEach [e] X.env = [(false, eval e X.env)] := by rfl) (hbase : attributeBase (.Constant (.str sep) k1 p1) "join" X.env (eval (.Constant (.str sep) k1 p1) X.env) = eval (.Constant (.str sep) k1 p1) X.env := by rfl) (hline : (apos.endLine == pos.line) = true := by rfl) :
    XE K X (.Call (.Attribute (.Constant (.str sep) k1 p1) "join" apos) [e] [] pos) (mJoin sep m) := by
  subst hK
  refine pe_imp (pe_join pe_str ha hs hbase hline) fun σ H Q ⟨H0, G, s, d, rs, e0, q⟩ => ?_
  obtain ⟨x, ex, e1⟩ := some_bind e0
  obtain ⟨ds, ed, e2⟩ := some_bind e1
  obtain ⟨ys, ey, e3⟩ := some_bind e2
  obtain ⟨⟨hz, hcl⟩, e4⟩ := if_some e3
  cases e4
  refine ⟨⟨sep, rfl⟩, H0, G, s, x, rs, ex, fun v H1 h1 rv => ?_⟩
  have big : 100000 ≤ 16777216 := by decide
  unfold items at ed
  split at ed
  · cases ed
    obtain ⟨p, xs, rfl, hr, ra⟩ := RB.items rs h1 rv
    have := RA.strsD ra ey
    subst this
    exact ⟨sep, p, ys, rfl, rfl, .inl hr, Nat.le_trans hz big, q _ H1 h1 (.str hcl)⟩
  · cases ed
    obtain ⟨p, xs, rfl, hr, ra⟩ := RB.itemsT rv
    have := RA.strsD ra ey
    subst this
    exact ⟨sep, p, ys, rfl, rfl, .inr hr.sqt, Nat.le_trans hz big, q _ H1 h1 (.str hcl)⟩
  · cases ed
/-- for c in a text -/
def charsD (x : Str) : List D := x.cps.toList.map fun c => .str ⟨#[c]⟩
def layC (c : Nat) : Bool := (PyData.str ⟨#[c]⟩).canLay0
def iStrD (m : M) : ML := fun s => (m s).bind fun d => match d with
  | .str x => if x.cps.toList.all layC = true then some (charsD x) else none
  | _ => none
theorem i_str (hK : X.K = K) (h : XB K X e m) : XI K X tg e (iStrD m) := by
  subst hK
  refine ⟨fun pins s σ H Rr I ⟨H0, G, sd, ds, r, e1, q⟩ => ?_⟩
  obtain ⟨d, ed, e2⟩ := some_bind e1
  split at e2
  · rename_i x
    obtain ⟨hl, e3⟩ := if_some e2
    cases e3
    refine (pi_str h).run pins s σ H Rr I ⟨H0, G, sd, _, r, ed, fun v H1 h1 rv => ?_⟩
    cases rv.plain (fun _ h => nomatch h)
    refine ⟨x, rfl, q _ H1 h1 ⟨fun i d H2 hd k => ?_, fun i d H2 v H3 hd k y => ?_, fun H2 k => ?_⟩⟩
    · obtain ⟨hi, _⟩ := List.getElem?_eq_some_iff.mp hd
      have : i < x.cps.size := by simpa [charsD] using hi
      exact this
    · obtain ⟨rfl, c, hc, rfl⟩ := y
      unfold charsD at hd
      rw [List.getElem?_map, Array.getElem?_toList, hc] at hd
      cases hd
      refine ⟨Ex.refl _, .str ?_⟩
      exact List.all_eq_true.mp hl c (List.mem_of_getElem? (by rw [Array.getElem?_toList]; exact hc))
    · show x.cps.size ≤ (charsD x).length
      simp [charsD]
  · cases e2
/-- a sign in a text -/
def fInS (n : Bool) : D → D → Option D
  | .str x, .str y => match x.cps.toList with
    | [c] => some (.bool (if n then !decide (c ∈ y.cps.toList) else decide (c ∈ y.cps.toList)))
    | _ => none
  | _, _ => none
theorem one_sign {x : Str} {c : Nat} (h : x.cps.toList = [c]) : x = ⟨#[c]⟩ := by
  cases x with
  | mk a =>
    congr
    exact Array.toList_inj.mp h
theorem os_inS : OpS K (fun x y H Q => ∃ i j, x = .str i ∧ y = .str j ∧ Q (.bl (!(Builtin.Str.occurrences j i 0 j.length 1).isEmpty)) H) (fInS false) := by
  intro H x y d e z rx ry hz
  unfold fInS at hz
  split at hz
  · rename_i i j
    split at hz
    · rename_i c hc
      cases hz
      cases rx; cases ry
      have := one_sign hc
      subst this
      exact ⟨_, .bl _, fun Q q => ⟨_, _, rfl, rfl, by rw [StrLaws.found_one]; simpa using q⟩⟩
    · cases hz
  · cases hz
theorem os_notInS : OpS K (fun x y H Q => ∃ i j, x = .str i ∧ y = .str j ∧ Q (.bl (!(!(Builtin.Str.occurrences j i 0 j.length 1).isEmpty))) H) (fInS true) := by
  intro H x y d e z rx ry hz
  unfold fInS at hz
  split at hz
  · rename_i i j
    split at hz
    · rename_i c hc
      cases hz
      cases rx; cases ry
      have := one_sign hc
      subst this
      exact ⟨_, .bl _, fun Q q => ⟨_, _, rfl, rfl, by rw [StrLaws.found_one]; simpa using q⟩⟩
    · cases hz
  · cases hz
theorem x_inS (ha : XB K X a ma) (hb : XB K X b mb) (hm : behindInMarks .In b = false := by rfl) : XE K X (.Compare a [.In] [b] pos) (m2 (fInS false) ma mb) := x_cmp op_in_str os_inS ha hb hm
theorem t_inS (ha : XB K X a ma) (hb : XB K X b mb) (hm : behindInMarks .In b = false := by rfl) : XT K X (.Compare a [.In] [b] pos) (mT (m2 (fInS false) ma mb)) := t_cmp op_in_str os_inS ha hb hm
theorem x_notInS (ha : XB K X a ma) (hb : XB K X b mb) (hm : behindInMarks .NotIn b = false := by rfl) : XE K X (.Compare a [.NotIn] [b] pos) (m2 (fInS true) ma mb) := x_cmp op_notIn_str os_notInS ha hb hm
theorem t_notInS (ha : XB K X a ma) (hb : XB K X b mb) (hm : behindInMarks .NotIn b = false := by rfl) : XT K X (.Compare a [.NotIn] [b] pos) (mT (m2 (fInS true) ma mb)) := t_cmp op_notIn_str os_notInS ha hb hm
/-- a, b = e, f -/
def mPar (i j : Nat) (ml : ML) : MS := fun s => match ml s with
  | some [d, e] => .nx ((s.set i (some (.sh d))).set j (some (.sh e)))
  | _ => .no
theorem s_par {i j : Nat} {st : Stmt} (h : PS X st (tPar i j (tAc K ml))) : XS K C E X st (mPar i j ml) := ps_imp h fun Dn σ H ⟨H0, G, s, r, q⟩ => by
  unfold mPar at q
  split at q
  · rename_i d e hm
    refine ⟨H0, G, s, _, r, hm, fun vs H1 e1 rv => ?_⟩
    obtain ⟨v, u, rfl, r1, r2⟩ := rv.two
    refine ⟨v, u, rfl, ?_⟩
    have s1 := (r.mono e1).set i r1
    have c1 : ∀ a, Cl G σ s a → Cl G (σ.set i (some v)) (s.set i (some (.sh d))) a := fun a z => ⟨z.1, fun ⟨k, ds, h1, h2⟩ => by
      rcases get_set h1 with ⟨_, z1, _⟩ | ⟨hk, h1⟩
      · cases z1
      · rw [List.getElem?_set_ne (Ne.symm hk)] at h2
        exact z.2 ⟨k, ds, h1, h2⟩⟩
    exact q _ H1 (s1.set j (r2.wider c1)) (((Tr.set (H := H1) i).trans (Tr.set (H := H1) j)).ex e1)
  · exact q.elim
end
end DD

/-! # A tuple read backwards; a table with pairs as keys -/
namespace DD
open PySem PySem.Spec PyProof.Rows L2
theorem back_adjust (n : Nat) : Builtin.Slice.sliceAdjust none none (-1) (n : Int) = ((n : Int) - 1, -1) := rfl
theorem back_places (n : Nat) : Builtin.Slice.slicePlaces ((n : Int) - 1) (-1) (-1) = n := by
  unfold Builtin.Slice.slicePlaces
  rw [if_neg (by decide)]
  split
  · rw [show -(-1 : Int) = 1 from rfl, Int.ediv_one]; omega
  · omega
theorem fm_congr {α β : Type} {f g : α → Option β} : ∀ (l : List α), (∀ x ∈ l, f x = g x) → l.filterMap f = l.filterMap g
  | [], _ => rfl
  | x :: l, h => by
    have h1 := h x List.mem_cons_self
    have h2 := fm_congr l fun y hy => h y (List.mem_cons_of_mem _ hy)
    cases hg : g x with
    | none => rw [List.filterMap_cons_none (h1.trans hg), List.filterMap_cons_none hg, h2]
    | some y => rw [List.filterMap_cons_some (h1.trans hg), List.filterMap_cons_some hg, h2]
theorem back_pick (xs : Array Value) : ((List.range xs.size).filterMap fun (m : Nat) => xs[((xs.size : Int) - 1 + (m : Int) * (-1)).toNat]?).toArray = xs.toList.reverse.toArray := by
  have e : ∀ m, m ∈ List.range xs.size → xs[((xs.size : Int) - 1 + (m : Int) * (-1)).toNat]? = some (xs.toList.reverse.getD m .none) := fun m hm => by
    have hm := List.mem_range.mp hm
    have h1 : ((xs.size : Int) - 1 + (m : Int) * (-1)).toNat = xs.size - 1 - m := by omega
    rw [h1, List.getD_eq_getElem?_getD, List.getElem?_reverse (by rw [Array.length_toList]; exact hm), Array.length_toList, Array.getElem?_toList, Array.getElem?_eq_getElem (by omega)]
    rfl
  congr 1
  have e2 : (List.range xs.size).filterMap (fun (m : Nat) => xs[((xs.size : Int) - 1 + (m : Int) * (-1)).toNat]?) = (List.range xs.size).filterMap (fun m => some (xs.toList.reverse.getD m .none)) := by
    exact fm_congr _ e
  rw [e2, List.filterMap_eq_map']
  apply List.ext_getElem?
  intro i
  rw [List.getElem?_map]
  by_cases hi : i < xs.size
  · rw [List.getElem?_range hi, Option.map_some, List.getD_eq_getElem?_getD, List.getElem?_eq_getElem (by rw [List.length_reverse, Array.length_toList]; exact hi)]
    rfl
  · rw [List.getElem?_eq_none (by rw [List.length_range]; omega), List.getElem?_eq_none (by rw [List.length_reverse, Array.length_toList]; omega)]
    rfl
section
variable {prog : Program} {w : World} {A : Around} {E : Value → Shared → Prop} {s : Shared}
theorem applied_back {sl : Addr} {vl vu vs : Value} {n : Nat} {Q : Int × Int × Nat → Shared → Prop} (hs : s.heap.IsSliceOf sl vl vu vs) (pl : IsPart vl none) (pu : IsPart vu none) (ps : IsPart vs (some (-1)))
    (h : Q ((n : Int) - 1, -1, n) s) : wpAny (model prog w) A (Builtin.Slice.sliceApplied (.ref sl) (pure (n : Int))) Q E s := by
  obtain ⟨os, hos, hcs, hds⟩ := id hs
  unfold Builtin.Slice.sliceApplied Builtin.Slice.sliceFields
  refine wpAny_bind (wpAny_bind (wpAny_field hos hds (x := vl) rfl (wpAny_bind (wpAny_field hos hds (x := vu) rfl (wpAny_bind (wpAny_field hos hds (x := vs) rfl (wpAny_pure ?_)))))))
  refine wpAny_bind (HT.slicePart_ ps ?_)
  show wpAny _ _ (if ((-1 : Int) == 0) = true then _ else _) _ _ s
  rw [if_neg (by decide)]
  refine wpAny_bind (HT.slicePart_ pl (wpAny_bind (HT.slicePart_ pu (wpAny_bind (wpAny_pure ?_)))))
  show wpAny _ _ (match Builtin.Slice.sliceAdjust none none (-1) (n : Int) with | (lo, hi) => pure (lo, (-1 : Int), Builtin.Slice.slicePlaces lo hi (-1))) _ _ s
  rw [back_adjust]
  show wpAny _ _ (pure ((n : Int) - 1, (-1 : Int), Builtin.Slice.slicePlaces ((n : Int) - 1) (-1) (-1))) _ _ s
  rw [back_places]
  exact wpAny_pure h
theorem getItem_back {t sl : Addr} {items : Array Value} {vl vu vs : Value} {Q : Value → Shared → Prop} (ht : IsTup s.heap t items) (hs : s.heap.IsSliceOf sl vl vu vs) (pl : IsPart vl none) (pu : IsPart vu none) (ps : IsPart vs (some (-1)))
    (h : Q (.ref s.heap.objs.size) { s with heap := s.heap.push { cls := .type "tuple", data := .seq items.toList.reverse.toArray } }) (hsz : items.size ≤ sizeLine) : wpAny (model prog w) A (getItem (.ref t) (.ref sl)) Q E s := by
  have hok : sizeOk (.seq items.toList.reverse.toArray) := by
    show items.toList.reverse.toArray.size ≤ sizeLine
    rw [List.size_toArray, List.length_reverse, Array.length_toList]
    exact hsz
  obtain ⟨os, hos, hcs, hds⟩ := id hs
  have hTs : s.TypeIs (.ref sl) "slice" := ⟨os, hos, hcs⟩
  unfold getItem
  try with_reducible refine wpAny_holding ?_
  first | refine wpAny_bind (wpAny_pure ?_) | skip
  refine wpAny_bind (wpAny_sequenceKey ht.typeIs (by decide) (wpAny_bind (wpAny_callSpecial?_slot (name := Str.ofString "__getitem__") ht.typeIs PyProof.Rows.slot_tuple_getitem
    (wpAny_call_entry PyProof.Rows.slot_tuple_getitem ht.typeIs PyProof.Rows.entry_tuple_getitem ?_ (PyProof.Rows.args_tuple_getitem _ _)))))
  show wpAny _ _ (Builtin.Tuple.tupleItemsOf (.ref t) >>= _) _ _ s
  refine wpAny_bind (PyProof.Rows.tupleItemsOf_ ht (wpAny_bind (wpAny_typeOf hTs ?_)))
  rw [if_pos (by decide)]
  refine wpAny_bind (applied_back hs pl pu ps ?_)
  show wpAny _ _ (if (((items.size : Int) - 1) == 0 && (-1 : Int) == 1 && items.size == items.size) = true then _ else _) _ _ s
  rw [if_neg (by simp), back_pick]
  first
    | exact wpAny_bind (m := Builtin.Tuple.tupleExact _) (wpAny_newObj_type (wpAny_pure ⟨_, rfl, wpAny_pure h⟩) hok)
    | exact wpAny_bind (wpAny_bind (m := Builtin.Tuple.tupleExact _) (wpAny_newObj_type (wpAny_pure ⟨_, rfl, wpAny_pure h⟩) hok))
    | exact wpAny_bind (m := Builtin.Tuple.tupleExact _) (wpAny_newObj_type (wpAny_bind (wpAny_pure (wpAny_pure ⟨_, rfl, wpAny_pure h⟩))) hok)
end
def tRevT (K : Fg) (te : TE) : TE := fun σ H Q => te σ H fun x H1 => ∃ a xs, x = .ref a ∧ SqT K H1 a xs ∧ ∀ p o, H1 p = none → o.cls = .type "tuple" → o.dict = none → Q (.ref p) (upd H1 p (.frz o (.tup xs.reverse)))
section
variable {X : Cx} {K : Fg} {m : M}
theorem pe_revT {e : Expr} {te : TE} {k : Nat} {p1 p2 p3 pos : Pos} (he : PE X e te) : PE X (.Subscript e (.Slice none none (some (.UnaryOp .USub (.Constant (.int 1) k p1) p2)) p3) pos) (tRevT X.K te) := by
  refine ⟨fun pins s σ H Q I h => Subscript_ (thn (he.run pins s σ H _ I h) fun v s1 ⟨x, H1, I1, r1, a, xs, ex, hx, q⟩ => ?_)⟩
  subst ex
  cases r1
  have hst : PO X (some (.UnaryOp .USub (.Constant (.int 1) k p1) p2)) (tPart (tUn (rU fun i => .int (-i)) (tC (.int 1)))) := po_some (pe_un un_neg pe_int)
  refine wpAny_Slice (thn (po_none.run pins s1 σ H1 (fun o H2 => o = none ∧ H2 = H1) I1 ⟨rfl, rfl⟩) fun vl s2 ⟨l, H2, I2, pl, el, e2⟩ => ?_)
  subst el e2
  refine thn (po_none.run pins s2 σ H2 (fun o H3 => o = none ∧ H3 = H2) I2 ⟨rfl, rfl⟩) fun vu s3 ⟨u, H3, I3, pu, eu, e3⟩ => ?_
  subst eu e3
  refine thn (hst.run pins s3 σ H3 (fun o H4 => o = some (-1) ∧ H4 = H3) I3 ⟨1, rfl, -1, rfl, rfl, rfl⟩) fun vs s4 ⟨o, H4, I4, ps, eo, e4⟩ => ?_
  subst eo e4
  have I5 : Inv X pins σ H4 { s4 with heap := s4.heap.push { cls := .type "slice", data := .fields #[vl, vu, vs] } } := I4.kept (t' := s4.toks) fun b ob q => Heap.get?_push_of_some _ q
  obtain ⟨its, r, ht, hz⟩ := I5.tuple hx
  have hlen := r.length
  show wpAny (model X.prog X.w) X.A (subscriptTail e (.Slice none none (some (.UnaryOp .USub (.Constant (.int 1) k p1) p2)) p3) (.ref a) (.ref s4.heap.objs.size)) (EP X pins σ Q) X.xe { s4 with heap := s4.heap.push { cls := .type "slice", data := .fields #[vl, vu, vs] } }
  refine tail_any (ops := [.ref a, .ref s4.heap.objs.size]) ht.typeIs (PyProof.Rows.slot_tuple_getitem.lookup) ?_ (by with_unfolding_all rfl)
  refine getItem_back ht (Heap.IsSliceOf.new _ vl vu vs) pl pu ps ?_ (by rw [List.size_toArray]; omega)
  have L := tup_laid (t' := s4.toks) I5 r.reverse (by rw [List.length_reverse]; exact hz)
  exact ⟨.ref _, _, L, rfl, q _ _ I5.hok.free0 rfl rfl⟩
def mRevT (m : M) : M := fun s => (m s).bind fun d => (fTup d).map fun ds => .tuple ds.reverse
theorem x_revT {e : Expr} {k : Nat} {p1 p2 p3 pos : Pos} (hK : X.K = K) (ha : XB K X e m) : XE K X (.Subscript e (.Slice none none (some (.UnaryOp .USub (.Constant (.int 1) k p1) p2)) p3) pos) (mRevT m) := by
  subst hK
  refine pe_imp (pe_revT ha) fun σ H Q ⟨H0, G, s, d, rs, e, q⟩ => ?_
  obtain ⟨x, ex, e⟩ := some_bind e
  obtain ⟨ds, ed, rfl⟩ := Option.map_eq_some_iff.mp e
  have := fTup_some ed
  subst this
  refine ⟨H0, G, s, _, rs, ex, fun v H1 e1 rv => ?_⟩
  rcases rv with rv | ⟨i, es, _, _, z⟩
  · cases rv with
    | tup hr ha =>
      rename_i a xs
      refine ⟨a, xs, rfl, hr.sqt, fun p o hp h1 h2 => q _ _ (e1.trans (Ex.new hp)) (.tup (.inl ⟨o, upd_same, h1, h2⟩) ((ha.ex (Ex.new hp)).reverse))⟩
  · cases z
end
end DD

/-! # A table of the written part with pairs of whole numbers as keys -/
namespace DD
open PySem PySem.Spec PyProof.Rows L2
/-- the table at d: its rows (key, where the key stands, its text) -/
structure DTab (P : Program) (w : World) (K : Fg) (d : Addr) (xs : List (List Int × Addr × Str × Tok)) : Prop where
  ob : ∃ (o : Obj) (es : Array DictEntry) (ep : Nat), K.lookup d = some o ∧ o.ExactDict ∧ o.data = .dict es ep ∧ es.toList = xs.map fun x => ⟨thash P w x.1, .ref x.2.1, .str x.2.2.1 x.2.2.2⟩
  ks : ∀ x ∈ xs, ∃ (o : Obj) (its : Array Value) (n : Nat), K.lookup x.2.1 = some o ∧ o.cls = .type "tuple" ∧ o.data = .seq its n ∧ ItemsAre (intKind P w) x.1 its.toList
  nd : (xs.map (·.1)).Nodup
  ns : (d == sysModules) = false
  lay : ∀ x ∈ xs, (PyData.str x.2.2.1).canLay0 = true
/-- the table as it is asked -/
def DTab.rows (xs : List (List Int × Addr × Str × Tok)) : List (List Int × Addr × Value) := xs.map fun x => (x.1, x.2.1, .str x.2.2.1 x.2.2.2)
theorem DTab.at {P : Program} {w : World} {K : Fg} {d : Addr} {xs : List (List Int × Addr × Str × Tok)} (T : DTab P w K d xs) {h : Heap} (kin : K.In h) : h.DictOfH (tupleKind (intKind P w)) d (DTab.rows xs) := by
  obtain ⟨o, es, ep, h1, h2, h3, h4⟩ := T.ob
  refine ⟨o, es, ep, kin _ _ h1, h2, h3, ?_, fun x hx => ?_, ?_⟩
  · rw [h4]
    unfold DTab.rows
    rw [List.map_map]
    rfl
  · obtain ⟨y, hy, rfl⟩ := List.mem_map.mp hx
    obtain ⟨o', its, n, k1, k2, k3, k4⟩ := T.ks y hy
    exact ⟨o', its, n, kin _ _ k1, k2, k3, k4⟩
  · have e : (DTab.rows xs).map (·.1) = xs.map (·.1) := by
      unfold DTab.rows
      rw [List.map_map]
      rfl
    rw [e]
    exact T.nd
def tabLook : List (List Int × Addr × Str × Tok) → List Int → Option Str
  | [], _ => none
  | x :: xs, k => if x.1 = k then some x.2.2.1 else tabLook xs k
theorem tab_at (k : List Int) : ∀ xs : List (List Int × Addr × Str × Tok), match tabLook xs k with
    | some s => (∃ t, ((atKey (DTab.rows xs) k).map (·.2)).getD .none = .str s t) ∧ ∃ x ∈ xs, x.2.2.1 = s
    | none => ((atKey (DTab.rows xs) k).map (·.2)).getD .none = .none
  | [] => rfl
  | x :: xs => by
    unfold tabLook
    by_cases e : x.1 = k
    · rw [if_pos e]
      refine ⟨⟨x.2.2.2, ?_⟩, x, List.mem_cons_self, rfl⟩
      simp [atKey, DTab.rows, e]
    · rw [if_neg e]
      have ih := tab_at k xs
      have same : atKey (DTab.rows (x :: xs)) k = atKey (DTab.rows xs) k := by
        simp [atKey, DTab.rows, e]
      rw [same]
      cases hl : tabLook xs k with
      | none => rw [hl] at ih; exact ih
      | some s =>
        rw [hl] at ih
        obtain ⟨h1, y, hy, h2⟩ := ih
        exact ⟨h1, y, List.mem_cons_of_mem _ hy, h2⟩
def fGetK (f : List Int → Option Str) : D → Option D := fun d => (keyD d).map fun k => match f k with
  | some s => .str s
  | none => .none
theorem ints_are {P : Program} {w : World} : ∀ {ks : List Int} {us : List Value}, Vals (ks.map V.int) us → ItemsAre (intKind P w) ks us
  | [], _, .nil => .nil
  | k :: ks, _, .cons r1 r2 => by
    obtain ⟨t, rfl⟩ := r1
    exact .cons (by simp [PySem.intKind, Value.isInt]) (ints_are r2)
section
variable {K : Fg} {X : Cx} {m : M} {e : Expr} {x : Str} {d : Addr} {xs : List (List Int × Addr × Str × Tok)} {p apos cpos : Pos}
theorem x_getK {k : Nat} (T : DTab X.prog X.w X.K d xs) (hK : X.K = K) (hr : Room k X.A) (hg : Gl X x) (hm : X.mg x = some (.ref d)) (ha : XB K X e m) (hM : M1 X (.Name x p) "get" apos e cpos) (hdb : (x == ("__debug__" : Str)) = false := by decide) :
    XE K X (.Call (.Attribute (.Name x p) "get" apos) [e] [] cpos) (m1 (fGetK (tabLook xs)) m) := by
  subst hK
  refine ⟨fun pins s σ H Q I ⟨H0, G, sd, z, r, e0, q⟩ => ?_⟩
  obtain ⟨y, ey, ek⟩ := some_bind e0
  obtain ⟨ks, ek', rfl⟩ := opt_map ek
  refine wpAny_Call_method hM.base hM.few hM.line PySem.F.plainAttrs_dict PySem.F.slot_dict_get PySem.F.type_dict_get (ld_glob I hg hm ?_ hdb)
  have D0 := T.at I.kIn
  refine ⟨D0.typeIs, fun b hb => ?_, ?_⟩
  · cases hb
    obtain ⟨ob, _, _, h1, h2, _⟩ := D0
    exact ⟨ob, h1, h2.2.1⟩
  rw [hM.trees]
  refine Calls.callWith_builtin rfl (Calls.evalArgs_plain (Calls.spliced_cons (thn (ha.run pins s σ H (fun v H1 => Ex H H1 ∧ RB X.K G σ sd H1 v y) I ⟨H0, G, sd, y, r, ey, fun v H1 e1 rv => ⟨e1, rv⟩⟩) fun u s2 ⟨v, H2, I2, ru, e2, rv⟩ => Calls.spliced_nil ?_)))
  obtain ⟨a, rfl, ht⟩ := R.keyD (RB.any r e2 rv) ek'
  cases ru
  obtain ⟨its, rv', ⟨o, ho, hc, n, hd⟩, _⟩ := I2.tuple ht.sqt
  have key : (tupleKind (intKind X.prog X.w)).is s2.heap ks a := ⟨o, its.toArray, n, ho, hc, hd, by rw [List.toList_toArray]; exact ints_are rv'⟩
  have hu : X.A.units + 1 < cLine := by have := hr.un; omega
  refine call_meetsIn PySem.F.slot_dict_get (T.at I2.kIn).typeIs PySem.F.entry_dict_get (PySem.F.args_dict_get_2 _ _) (meetsH_dict_get (tupleKind (intKind X.prog X.w)) d a T.ns) ⟨tupleKind_room_in1 hu, ks, _, key, T.at I2.kIn, ?_⟩
  have lk := tab_at ks xs
  cases hl : tabLook xs ks with
  | none =>
    rw [hl] at lk q
    rw [lk]
    exact ⟨.non, H2, I2.tok _, rfl, q _ H2 e2 .non⟩
  | some t =>
    rw [hl] at lk q
    obtain ⟨⟨tk, l1⟩, z, hz, l2⟩ := lk
    rw [l1]
    exact ⟨.str t, H2, I2.tok _, ⟨tk, rfl⟩, q _ H2 e2 (.str (l2 ▸ T.lay z hz))⟩
theorem x_getKq {k : Nat} {f : List Int → Option Str} (hq : tabLook xs = f) (T : DTab X.prog X.w X.K d xs) (hK : X.K = K) (hr : Room k X.A) (hg : Gl X x) (hm : X.mg x = some (.ref d)) (ha : XB K X e m) (hM : M1 X (.Name x p) "get" apos e cpos) (hdb : (x == ("__debug__" : Str)) = false := by decide) :
    XE K X (.Call (.Attribute (.Name x p) "get" apos) [e] [] cpos) (m1 (fGetK f) m) := hq ▸ x_getK T hK hr hg hm ha hM hdb
end
theorem items2 {P : Program} {w : World} {a b : Int} {u v : Tok} : ItemsAre (PySem.intKind P w) [a, b] [.int a u, .int b v] := .cons (by simp [PySem.intKind, Value.isInt]) (.cons (by simp [PySem.intKind, Value.isInt]) .nil)
theorem hash_lit {P : Program} {w : World} {k : List Int} {h : Int} (e : h = reduceHash (Builtin.Tuple.tupleHashOf (k.map hashInt))) : h = thash P w k := e
theorem dtab_mk {P : Program} {w : World} {K : Fg} {d : Addr} {xs : List (List Int × Addr × Str × Tok)} {es : Array DictEntry} {ep : Nat} (l : K.lookup d = some ⟨.type "dict", none, .dict es ep, #[]⟩) (he : es.toList = xs.map fun x => ⟨thash P w x.1, .ref x.2.1, .str x.2.2.1 x.2.2.2⟩)
    (ks : ∀ x ∈ xs, ∃ (o : Obj) (its : Array Value) (n : Nat), K.lookup x.2.1 = some o ∧ o.cls = .type "tuple" ∧ o.data = .seq its n ∧ ItemsAre (PySem.intKind P w) x.1 its.toList) (nd : (xs.map (·.1)).Nodup) (ns : (d == sysModules) = false) (lay : ∀ x ∈ xs, (PyData.str x.2.2.1).canLay0 = true) : DTab P w K d xs :=
  ⟨⟨_, es, ep, l, ⟨rfl, rfl, rfl⟩, rfl, he⟩, ks, nd, ns, lay⟩
theorem len1 {m : M} {s : S} {ds : List D} (h : mCons m mNil s = some ds) : ds.length = 1 := by
  obtain ⟨x, xs, _, h2, rfl⟩ := mCons_some h
  cases h2
  rfl
theorem len2 {m n : M} {s : S} {ds : List D} (h : mCons m (mCons n mNil) s = some ds) : ds.length = 2 := by
  obtain ⟨x, xs, _, h2, rfl⟩ := mCons_some h
  rw [List.length_cons, len1 h2]
theorem len3 {m n o : M} {s : S} {ds : List D} (h : mCons m (mCons n (mCons o mNil)) s = some ds) : ds.length = 3 := by
  obtain ⟨x, xs, _, h2, rfl⟩ := mCons_some h
  rw [List.length_cons, len2 h2]
/-- the __init__ of the class that stands at i of the text -/
def initOf : Stmt → Stmt
  | .ClassDef (body := b) .. => b.getD 0 (.Pass ⟨0, 0, 0, 0⟩)
  | s => s
/-- its promise -/
theorem init_mk {P : Program} {w : World} {K : Fg} {mg : Str → Option Value} {base : Heap} {x q : Str} {st : Stmt} {fI cda cc C : Addr} {dV kV doc pm ct oc : Value} {an od : Option Addr} {osl : Array (Option Value)} {N ns : List Str} {parts : List (Str ⊕ Nat)} {pl : Sem Bool}
    {e : Expr} {p0 p1 p2 p3 p4 : Pos} {stores : List Stmt} (hbd : defBody st = .Expr (supC e p0 p1 p2 p3) p4 :: stores)
    (lk : K.lookup fI = some ⟨oc, od, .func (PySem.W.ksFn "__init__" q (defArgs st) (defBody st) (defScope st) dV kV doc pm an (.ref cda) ct cc), osl⟩) (hcd : PySem.W.codeIn K (.ref cda) q = true) (hcc : ∃ o v, K.lookup cc = some o ∧ o.data = .cell v)
    (S : NdefX.NScope N ("self" :: ns) ["__class__"] (defScope st)) (su : (defScope st).names.lookup ("super" : Str) = some .globalImplicit) (T : OexC K C) (F : SupF P K mg fI cda cc C) (hne : ns ≠ []) (hns : ns.length ≤ 20) (hpl : parts.length ≤ 50) (hpo : partsOk ns.length parts = true) (hno : ∀ n ∈ ns, PySem.W.findIn K (.ref C) n = some none)
    (he : ∀ (A : Around) (outer : List Env) (s : Shared) (H : Hp) (E : XK), A.units + 3 + 2 < cLine → PE (NdefX.ncx CX0 P w K mg base N (supN "__init__" q (defArgs st) (.Expr (supC e p0 p1 p2 p3) p4 :: stores) (defScope st) cc cda) fI A outer s H E) e (fun σ H Q => tJs (parts.map (partT K)) Str.empty σ H fun out H1 => Q (.str out) H1))
    (hst : ∀ (A : Around) (outer : List Env) (s : Shared) (H : Hp) (E : XK), PSs (NdefX.ncx CX0 P w K mg base N (supN "__init__" q (defArgs st) (.Expr (supC e p0 p1 p2 p3) p4 :: stores) (defScope st) cc cda) fI A outer s H E) stores (tSt1 K (slotsFrom 1 ns)))
    (hi : ∀ n : Addr, interactive (NdefX.envF (supN "__init__" q (defArgs st) (.Expr (supC e p0 p1 p2 p3) p4 :: stores) (defScope st) cc cda) fI n) = false) (hsw : ∀ n : Addr, swapsWith (supC e p0 p1 p2 p3) none p4.line (NdefX.envF (supN "__init__" q (defArgs st) (.Expr (supC e p0 p1 p2 p3) p4 :: stores) (defScope st) cc cda) fI n) = pure false)
    (hev : ∀ n : Addr, eval (supC e p0 p1 p2 p3) (NdefX.envF (supN "__init__" q (defArgs st) (.Expr (supC e p0 p1 p2 p3) p4 :: stores) (defScope st) cc cda) fI n) = (do
      let ov ← attributeBase (.Call (.Name "super" p0) [] [] p1) "__init__" (NdefX.envF (supN "__init__" q (defArgs st) (.Expr (supC e p0 p1 p2 p3) p4 :: stores) (defScope st) cc cda) fI n) (eval (.Call (.Name "super" p0) [] [] p1) (NdefX.envF (supN "__init__" q (defArgs st) (.Expr (supC e p0 p1 p2 p3) p4 :: stores) (defScope st) cc cda) fI n))
      standAt p2.atName
      let (f', first) ← holding [ov] (getMethod ov "__init__" pl)
      callWith p3 f' first (backTo p3 (starEach [e] (NdefX.envF (supN "__init__" q (defArgs st) (.Expr (supC e p0 p1 p2 p3) p4 :: stores) (defScope st) cc cda) fI n))) []))
    (hse : ∀ n : Addr, starEach [e] (NdefX.envF (supN "__init__" q (defArgs st) (.Expr (supC e p0 p1 p2 p3) p4 :: stores) (defScope st) cc cda) fI n) = (false, eval e (NdefX.envF (supN "__init__" q (defArgs st) (.Expr (supC e p0 p1 p2 p3) p4 :: stores) (defScope st) cc cda) fI n)) :: starEach [] (NdefX.envF (supN "__init__" q (defArgs st) (.Expr (supC e p0 p1 p2 p3) p4 :: stores) (defScope st) cc cda) fI n))
    (gC : mg x = some (.ref C)) (iC : PySem.W.findIn K (.ref C) "__init__" = some (some (.ref fI))) (tI : PySem.W.typeIn K (.ref fI) = some (.type "function")) (hb : Binds K (PySem.W.ksFn "__init__" q (defArgs st) (defBody st) (defScope st) dV kV doc pm an (.ref cda) ct cc) ("self" :: ns) []) : ExcK P w K mg base 1 x C ns := by
  rw [hbd] at lk hb
  exact ⟨T, gC, fI, _, iC, tI, fn_init (k := 0) lk hcd hcc S su T F hne hns hpl hpo hno he hst hi hsw hev hse, hb⟩
end DD

/-! # enumerate over a list or a tuple -/
namespace DD
open PySem PySem.Spec PyProof.Rows L2
open Sem (wp)
set_option maxHeartbeats 4000000 in
theorem enum_new1 {v : Value} {o : Obj} {J : Heap → Prop} (B : Begins v o J) :
    Meets (Builtin.«enumerate.__new__» ⟨[.type "enumerate", v], []⟩) (fun _ R s => J s.heap ∧
      R (.ok (.ret (.ref (s.heap.push o).objs.size))) { s with heap := (s.heap.push o).push { cls := .type "enumerate", data := .fields #[.none, .bool false, .ref s.heap.objs.size, rawInt 0, .none, .none] } }) :=
  .of_wp fun P w A R s z => by
    obtain ⟨z1, z2⟩ := z
    have sub := sub_enumerate
    have go : ∀ {A' : Around} {E : Value → Shared → Prop} {Q : Value → Shared → Prop}, Q (.ref s.heap.objs.size) { s with heap := s.heap.push o } → wpAny (model P w) A' (pyIter v) Q E s := fun q => B.iter P w _ _ s _ z1 q
    obtain ⟨hp, g, d, tk, os⟩ := s
    wp_walk using go
    refine wpAny_stack_any fun st => wpAny_pure ?_
    split
    · rename_i c _ _ _ _ _
      cases (c == Value.type "enumerate")
      · wp_walk using go
        exact ⟨_, rfl, z2⟩
      · wp_walk using go
        exact ⟨_, rfl, z2⟩
    · wp_walk using go
      exact ⟨_, rfl, z2⟩
section
variable {P : Program} {w : World} {A : Around} {E : Value → Shared → Prop} {s : Shared}
theorem call_enum1 {v : Value} {o : Obj} {J : Heap → Prop} {Q : Value → Shared → Prop} (B : Begins v o J) (z : J s.heap)
    (h : ∀ h', IsEnum h' (s.heap.objs.size + 1) s.heap.objs.size 0 .none → h'.get? s.heap.objs.size = some o → (∀ b o, s.heap.get? b = some o → h'.get? b = some o) → Q (.ref (s.heap.objs.size + 1)) { s with heap := h' }) :
    wpAny (model P w) A (call (.type "enumerate") [v]) Q E s := by
  refine callType_new F.called_enumerate (by decide) (F.typeCall_enumerate_1 _) (F.newCall_enumerate_1 _) (fun obj => F.args_object_init_2 obj _) F.entry_enumerate_new (enum_new1 B) ⟨z, ?_⟩
  have sz : (s.heap.push o).objs.size = s.heap.objs.size + 1 := Heap.size_push ..
  have g := Heap.get?_push_size (s.heap.push o) (o := { cls := .type "enumerate", data := .fields #[.none, .bool false, .ref s.heap.objs.size, rawInt 0, .none, .none] }) rfl
  show _ ∧ _
  rw [sz] at g ⊢
  exact ⟨⟨_, g, rfl⟩, h _ g (Heap.get?_push_of_some _ (Heap.get?_push_size _ B.free)) fun b u x => Heap.get?_push_of_some _ (Heap.get?_push_of_some _ x)⟩
end
/-- the tuple at a as it stands at each turn, each item in a new pair -/
def IteT (K : PySem.W.Frag) (a : Addr) : It :=
  ⟨fun i H => ∃ (xs : List V) (x : V), SqT K H a xs ∧ xs[i]? = some x, fun i H v H' => ∃ T x, v = .ref T ∧ H T = none ∧ H' = upd H T (.tup [.int (i : Nat), x]) ∧ ∀ xs, SqT K H a xs → xs[i]? = some x, fun i H => ∃ xs : List V, SqT K H a xs ∧ xs.length ≤ i⟩
theorem turn_enumT {P : Program} {w : World} {K : PySem.W.Frag} {elts : List Expr} {kk : Nat} {tpos : Pos} (a e it : Addr) :
    Turn P w K (.Tuple elts kk tpos) (IteT K a) [e, it] e (fun i h => (∃ old, IsEnum h e it ((i : Nat) : Int) old) ∧ h.IsTupleIter it a i ∧ e ≠ it ∧ a ≠ it ∧ e ≠ a) where
  mem := by simp
  obj := fun i h st b hb => by
    obtain ⟨⟨old, he⟩, ⟨o, ho, hc, hd⟩, _⟩ := st
    rcases (show b = e ∨ b = it by simpa using hb) with z | z
    · rw [z]; exact ⟨_, he, fun v q => nomatch q⟩
    · rw [z]; exact ⟨o, ho, fun v q => by rw [hd] at q; cases q⟩
  keep := fun i h h' st k => let ⟨⟨old, he⟩, hi, hne⟩ := st; ⟨⟨old, k e (by simp) _ he⟩, hi.at fun o q => k it (by simp) o q, hne⟩
  item := by
    intro X hP hw hK hc i pins s σ H E I hf st hg
    subst hP hw hK
    obtain ⟨⟨old, he⟩, hit, hne, hai, hea⟩ := st
    obtain ⟨xs, x, hq, hx⟩ := hg
    obtain ⟨its, rv, p, hz⟩ := I.tuple hq
    obtain ⟨u, hu, ru⟩ := rv.get hx
    have hel : e < s.heap.objs.size := Heap.lt_size he
    have hil : it < s.heap.objs.size := by obtain ⟨_, q, _⟩ := hit; exact Heap.lt_size q
    have hn : i < its.toArray.size := by
      have := (List.getElem?_eq_some_iff.mp hu).1
      simpa using this
    have D : Draws X.prog X.w X.A.in1 it [it, a] its.toArray.size (fun i v => its.toArray[i]? = some v) (fun i h => h.IsTupleIter it a i ∧ h.IsTuple a its.toArray) := Draws.tuple (show X.A.in1.handled = none from I.ok.hd hc) it a hai its.toArray
    refine wpAny_pyNext_enum_itemD D he ⟨hit, p⟩ hn hne (by simp [hne, hea]) fun y h' tk hy ho hs' hT hsz hk => ?_
    have : y = u := by
      have e1 : its.toArray[i]? = some u := by simpa using hu
      exact Option.some.inj (hy.symm.trans e1)
    subst this
    refine ⟨_, rfl, wpAny_letOwnedTupleGo_enum (s := { s with heap := h', toks := tk + 1 }) ho fun h'' he' sb => ?_⟩
    have hT2 : h''.get? s.heap.objs.size = some { cls := .type "tuple", data := .seq #[.int i tk, y] } := (sb.2 _ (Nat.ne_of_gt hel)).trans hT
    have new : ObjOk X.prog X.w (upd H s.heap.objs.size (.tup [.int (i : Nat), x])) h'' s.heap.objs.size (.tup [.int (i : Nat), x]) :=
      ⟨by show 2 ≤ sizeLine; decide, [.int i tk, y], .cons ⟨_, rfl⟩ (.cons ru .nil), ⟨_, hT2, rfl, _, rfl⟩⟩
    have I1 : Inv X pins σ (upd H s.heap.objs.size (.tup [.int (i : Nat), x])) { s with heap := h'', toks := tk + 1 } :=
      I.turnedNew (ch := [e, it]) (fun b ob hb q => (sb.2 b (fun z => hb (by simp [z]))).trans (hk b ob (fun z => hb (by simp [z])) (fun z => hb (by simp [z])) q)) hf (Nat.le_refl _) new
    refine ⟨.ref s.heap.objs.size, _, I1, rfl, ⟨_, x, rfl, I.hok.fresh (Nat.le_refl _), rfl, fun ys hy => by rw [I.tuple_inj hy hq]; exact hx⟩, ⟨⟨y, ?_⟩, hs'.1.at fun o q => (sb.2 it (Ne.symm hne)).trans q, hne, hai, hea⟩, fun b hb => ?_⟩
    · have e1 : ((i + 1 : Nat) : Int) = (i : Int) + 1 := by omega
      rw [e1]; exact he'
    · have hb' : b < s.heap.objs.size := by
        rcases (show b = e ∨ b = it by simpa using hb) with z | z
        · rw [z]; exact hel
        · rw [z]; exact hil
      rw [upd_ne (Nat.ne_of_lt hb')]
      exact (hf b hb).1
  done := by
    intro X hP hw hK hc i pins s σ H E I hf st hg
    subst hP hw hK
    obtain ⟨⟨old, he⟩, hit, hne, hai, hea⟩ := st
    obtain ⟨xs, hq, hx⟩ := hg
    obtain ⟨its, rv, p, hz⟩ := I.tuple hq
    obtain ⟨f0, f1, f2, f3, f4, f5⟩ := hf it (by simp)
    have hl := rv.length
    have D : Draws X.prog X.w X.A.in1 it [it, a] i (fun _ _ => False) (fun j h => j = i ∧ h.IsTupleIter it a j ∧ h.IsTuple a its.toArray) :=
      ⟨fun j h st => let ⟨o, ho, _⟩ := st.2.1; ⟨o, ho⟩, fun j h h' st hk => ⟨st.1, st.2.1.at fun o e => hk it (by simp) o e, st.2.2.at fun o e => hk a (by simp) o e⟩,
        fun j s Q E hj st hQ => absurd st.1 (Nat.ne_of_lt hj), fun s Q E st hE => wpAny_nextOf_tuple_end (show X.A.in1.handled = none from I.ok.hd hc) st.2.1 st.2.2 (by simp; omega) hE⟩
    exact wpAny_pyNext_enum_endD D he ⟨rfl, hit, p⟩ fun h' eb => ⟨rfl, I.turned (t' := s.toks) (fun b o hb q => eb b o hb q) f0 f1 f3 f4 f5⟩
  self := fun A i s Q E st h => let ⟨⟨_, he⟩, _⟩ := st; wpAny_pyIter_enum he h
def iEnumA (K : PySem.W.Frag) (ta : TA) : TI := fun σ H R => ta σ H fun vs H1 => ∃ a xs, vs = [.ref a] ∧ ((SqL K H1 a xs ∧ R (Ite K a) H1) ∨ (SqT K H1 a xs ∧ R (IteT K a) H1))
theorem pi_enumA {X : Cx} {e : Expr} {ta : TA} {p pos tpos : Pos} {elts : List Expr} {kk : Nat} (hg : Gl X "enumerate") (hm : X.mg "enumerate" = none) (ha : PA X [e] ta) (hs : starEach [e] X.env = [(false, eval e X.env)] := by rfl) :
    PI X (.Tuple elts kk tpos) (.Call (.Name "enumerate" p) [e] [] pos) (iEnumA X.K ta) := by
  refine ⟨fun pins s σ H R I h => ?_⟩
  refine Call_ (ld_blt I hg hm boot_enumerate (PyProof.Rows.callWith_type1 (thn (ha.run pos pins s σ H _ I h) fun us s1 ⟨vs, H1, I1, r1, q1⟩ => ?_) hs rfl))
  obtain ⟨a, xs, ex, q1⟩ := q1
  subst ex
  cases r1 with
  | cons r rr =>
    cases rr
    cases r
    have fresh : ∀ b, b ∈ [s1.heap.objs.size + 1, s1.heap.objs.size] → FpOk X pins H1 b := fun b hb => by
      have hle : s1.heap.objs.size ≤ b := by
        rcases (show b = s1.heap.objs.size + 1 ∨ b = s1.heap.objs.size by simpa using hb) with z | z
        · rw [z]; exact Nat.le_add_right _ _
        · rw [z]; exact Nat.le_refl _
      exact I1.fpOk hle (I1.hok.fresh hle)
    rcases q1 with ⟨hq, q⟩ | ⟨hq, q⟩
    · obtain ⟨its, rv, p', hz⟩ := I1.list hq
      refine call_enumerate_list p'.isList fun h' he hit hsz hk => wpAny_pyIter_enum he ?_
      have I2 : Inv X pins σ H1 { s1 with heap := h' } := I1.kept (t' := s1.toks) hk
      exact ⟨s1.heap.objs.size + 1, [s1.heap.objs.size + 1, s1.heap.objs.size], _, _, H1, rfl, I2, turn_enum a (s1.heap.objs.size + 1) s1.heap.objs.size, ⟨⟨.none, he⟩, hit, Nat.succ_ne_self _⟩, fresh, q⟩
    · obtain ⟨its, rv, p', hz⟩ := I1.tuple hq
      obtain ⟨o1, ho1, _⟩ := id p'
      have hlt : a < s1.heap.objs.size := Heap.lt_size ho1
      refine call_enum1 (begins_tuple a its.toArray) p' fun h' he hit hk => wpAny_pyIter_enum he ?_
      have I2 : Inv X pins σ H1 { s1 with heap := h' } := I1.kept (t' := s1.toks) hk
      exact ⟨s1.heap.objs.size + 1, [s1.heap.objs.size + 1, s1.heap.objs.size], _, _, H1, rfl, I2, turn_enumT a (s1.heap.objs.size + 1) s1.heap.objs.size, ⟨⟨.none, he⟩, ⟨_, hit, rfl, rfl⟩, Nat.succ_ne_self _, Nat.ne_of_lt hlt, Nat.ne_of_gt (Nat.lt_succ_of_lt hlt)⟩, fresh, q⟩
/-! ### as data -/
section
variable {K : Fg} {X : Cx} {C : XC} {E : XK} {H0 H H' H1 H2 : Hp} {G B : Addr → Prop} {σ : L2.St} {s : S} {tg e a b : Expr} {m ma mb : M} {ml : ML} {pos p p2 : Pos} {es : List Expr}
def numD (i : Nat) : List D → List D
  | [] => []
  | d :: ds => .tuple [.int (i : Nat), d] :: numD (i + 1) ds
theorem numD_len : ∀ {ds : List D} {i : Nat}, (numD i ds).length = ds.length
  | [], _ => rfl
  | d :: ds, i => by rw [numD, List.length_cons, List.length_cons, numD_len]
theorem numD_get : ∀ {ds : List D} {k i : Nat} {d : D}, (numD k ds)[i]? = some d → ∃ x, ds[i]? = some x ∧ d = .tuple [.int ((k + i : Nat) : Int), x]
  | [], _, _, _, h => by cases h
  | x :: ds, k, 0, d, h => by cases h; exact ⟨x, rfl, rfl⟩
  | x :: ds, k, i + 1, d, h => by
    obtain ⟨y, h1, h2⟩ := numD_get (ds := ds) (k := k + 1) (i := i) h
    exact ⟨y, h1, by rw [h2, show k + 1 + i = k + (i + 1) by omega]⟩
def iEnumD (ml : ML) : ML := fun s => (ml s).bind fun ds => match ds with
  | [.list xs] => some (numD 0 xs)
  | [.tuple xs] => some (numD 0 xs)
  | _ => none
theorem num_new {K : Fg} {H : Hp} {T : Addr} {x : V} {d : D} {i : Nat} {B : Addr → Prop} (hT : H T = none) (hx : R K B H x d) : RP K B (upd H T (.tup [.int (i : Nat), x])) (.ref T) (.tuple [.int (i : Nat), d]) :=
  ⟨T, [.int (i : Nat), x], [.int (i : Nat), d], rfl, rfl, .inl (.inl upd_same), .cons (.int _) (.cons (hx.ex (Ex.new hT)) .nil)⟩
theorem i_enum {elts : List Expr} {kk : Nat} {tpos : Pos} (hK : X.K = K) (hg : Gl X "enumerate") (hm : X.mg "enumerate" = none) (ha : XA K X [a] ml) (hs : starEach [a] X.env = [(false, eval a X.env)] := by rfl) :
    PI X (.Tuple elts kk tpos) (.Call (.Name "enumerate" p) [a] [] pos) (iDr (RP K) K (iEnumD ml)) := by
  subst hK
  refine ⟨fun pins s σ H Rr I ⟨H0, G, sd, ds, r, e0, q⟩ => (pi_enumA hg hm ha hs).run pins s σ H Rr I ?_⟩
  obtain ⟨es, ee, e3⟩ := some_bind e0
  clear e0
  refine ⟨H0, G, sd, es, r, ee, fun vs H1 e2 rv => ?_⟩
  split at e3
  · cases e3
    rename_i xs
    cases rv with
    | cons r1 rr =>
    cases rr
    cases r1 with
    | lst t1 a1 =>
      rename_i ta tx
      have st : ∀ H2, Kp σ sd H1 H2 → SqL X.K H2 ta tx := fun H2 k => t1.elim (fun z => .inl (k.rd z.1.2 z.2)) .inr
      refine ⟨ta, tx, rfl, .inl ⟨t1.sql, q _ H1 e2 ⟨fun i d H2 hd k => ?_, fun i d H2 x H3 hd k y => ?_, fun H2 k => ⟨tx, st H2 k, ?_⟩⟩⟩⟩
      · obtain ⟨x, hx, _⟩ := numD_get hd
        obtain ⟨v, hv, _⟩ := a1.get hx
        exact ⟨tx, v, st H2 k, hv⟩
      · obtain ⟨T, v, rfl, hT, rfl, h1⟩ := y
        obtain ⟨x, hx, rfl⟩ := numD_get hd
        obtain ⟨v', hv, rv⟩ := a1.get hx
        have w1 := h1 tx (st _ k)
        rw [hv] at w1; cases w1
        rw [Nat.zero_add]
        exact ⟨Ex.new hT, num_new hT (R.kp (r.mono e2) k rv)⟩
      · rw [a1.length, numD_len]
        exact Nat.le_refl _
  · cases e3
    rename_i xs
    cases rv with
    | cons r1 rr =>
    cases rr
    cases r1 with
    | tup t1 a1 =>
      rename_i ta tx
      have st : ∀ H2, Kp σ sd H1 H2 → SqT X.K H2 ta tx := fun H2 k => (k.sqt (r.mono e2) t1).sqt
      refine ⟨ta, tx, rfl, .inr ⟨t1.sqt, q _ H1 e2 ⟨fun i d H2 hd k => ?_, fun i d H2 x H3 hd k y => ?_, fun H2 k => ⟨tx, st H2 k, ?_⟩⟩⟩⟩
      · obtain ⟨x, hx, _⟩ := numD_get hd
        obtain ⟨v, hv, _⟩ := a1.get hx
        exact ⟨tx, v, st H2 k, hv⟩
      · obtain ⟨T, v, rfl, hT, rfl, h1⟩ := y
        obtain ⟨x, hx, rfl⟩ := numD_get hd
        obtain ⟨v', hv, rv⟩ := a1.get hx
        have w1 := h1 tx (st _ k)
        rw [hv] at w1; cases w1
        rw [Nat.zero_add]
        exact ⟨Ex.new hT, num_new hT (R.kp (r.mono e2) k rv)⟩
      · rw [a1.length, numD_len]
        exact Nat.le_refl _
  · cases e3
/-- for i, x in enumerate(..): in a statement -/
theorem s_forP {it : Expr} {body : List Stmt} {g : MG} {ts : List Nat} {mb : MS} (hp : PassesOwn (model X.prog X.w) X.A X.env X.xe) (hc : X.calm = true) (hi : PI X tg it (iDr (RP K) K ml)) (hg : PG X tg (gDr (RP K) K ts g)) (hb : XSs K C E X body mb) (hs : ∀ x, foldedSetIterable it X.env x = pure x := by intro _; rfl) :
    XS K C E X (.For tg it body [] pos) (mForS ml g mb) := s_forR (rl := RP K) (wideP K) hp hc hi hg hb hs
end
end DD

/-! # try with two clauses that name what they caught -/
namespace DD
open PySem PySem.Spec PyProof.Rows L2
/-- the exception at a has come to this def's ground: what its clauses find -/
structure Ground (X : Cx) (pins : List (Addr × Obj)) (B : Heap) (sI : Shared) (a : Addr) (cls : Value) (d : Option Addr) (σ : L2.St) (H : Hp) (s' : Shared) (h3 : Heap) : Prop where
  hs : X.stack = X.env :: X.outer
  hf : X.env.frame = some X.env.locals
  J : Inv X pins σ H sI
  nb : ∀ b o, sI.heap.get? b = some o → b ∉ frs X.stack → B.get? b = some o
  up : sI.heap.UpToSlots h3
  fl : HandSPX.FlyingZ B (X.env :: X.outer) a (L2N.Zn cls d) h3
  na : H a = none
  os : s'.os = sI.os
  ag : AllBare s'.gens
section
variable {X : Cx} {pins : List (Addr × Obj)} {B : Heap} {sI : Shared} {a : Addr} {cls : Value} {d : Option Addr} {σ : L2.St} {H : Hp} {s' : Shared} {h3 : Heap}
theorem Ground.inv (g : Ground X pins B sI a cls d σ H s' h3) : Inv X pins σ H { s' with heap := h3 } := g.J.landed g.nb g.fl.1 g.up g.os g.ag
theorem Ground.off (g : Ground X pins B sI a cls d σ H s' h3) : a ≠ X.env.locals ∧ a ∉ X.fs := by
  obtain ⟨oe, vs, he, _, hd⟩ := g.fl.there
  have n : a ∉ frs (X.env :: X.outer) := fun hm => by
    obtain ⟨_, o, e, z⟩ := g.fl.2.2.1.mem hm
    rw [he] at e; cases e
    exact z _ hd
  refine ⟨fun z => n (List.mem_filterMap.mpr ⟨X.env, List.mem_cons_self, by rw [g.hf, z]⟩), fun hm => ?_⟩
  obtain ⟨e, he, q⟩ := List.mem_filterMap.mp hm
  exact n (List.mem_filterMap.mpr ⟨e, List.mem_cons_of_mem _ he, q⟩)
theorem Ground.inS (g : Ground X pins B sI a cls d σ H s' h3) : ∃ oe, h3.get? a = some oe ∧ L2N.Zn cls d oe ∧ (∃ vs, oe.data = .fields vs) ∧ Inv (X.suite a ((a, oe) :: (X.pn ++ pins))) [] σ H { s' with heap := h3 } := by
  obtain ⟨oe, vs, he, hz, hd⟩ := g.fl.there
  exact ⟨oe, he, hz, ⟨vs, hd⟩, g.inv.suite he hd g.na g.off.1 g.off.2⟩
theorem Ground.again (g : Ground X pins B sI a cls d σ H s' h3) {h4 : Heap} (fl : HandSPX.FlyingZ B (X.env :: X.outer) a (L2N.Zn cls d) h4) (up : h3.UpToSlots h4) : Ground X pins B sI a cls d σ H s' h4 := ⟨g.hs, g.hf, g.J, g.nb, g.up.trans up, fl, g.na, g.os, g.ag⟩
/-- no clause is left -/
theorem Ground.out (g : Ground X pins B sI a cls d σ H s' h3) {W : WX} {D : Ends} (tk : L2N.Takes X W) (w : W cls d σ H) : wpAny (model X.prog X.w) X.A (handleBy (.ref a) X.env []) (SP X pins D) X.xe { s' with heap := h3 } := by
  refine wpAny_handleBy_nil ?_
  obtain ⟨_, _, _, oe, vs, T, oT, ts, he, hz, hd, h1, hr⟩ := id g.fl
  unfold PySem.passOn
  refine wpAny_bind (wpAny_field he hd h1 ?_)
  rw [if_neg (show ¬ ((Value.ref T == Value.none) = true) from by simp)]
  have fin : wpAny (model X.prog X.w) X.A (setFlight (.ref a) X.env.frame) (fun _ s4 => wpAny (model X.prog X.w) X.A (throw (.ref a) : Sem Flow) (SP X pins D) X.xe s4) X.xe { s' with heap := h3 } := by
    rw [g.hf]
    exact HandSPX.setFlight_upZ g.fl fun h4 hh up => wpAny_throw (tk _ _ ⟨a, B, sI, pins, σ, H, cls, d, rfl, g.J, g.nb, g.up.trans up, .inr (.inr (by rw [g.hs]; exact hh)), g.na, g.os, g.ag, w⟩)
  first
    | exact wpAny_bind (wpAny_pure (wpAny_bind fin))
    | exact wpAny_bind fin
/-- one clause -/
theorem Ground.clause (g : Ground X pins B sI a cls d σ H s' h3) {x n : Str} {c : Value} {i : Nat} {np pos : Pos} {b₀ : Stmt} {suite : List Stmt} {hds : List ExceptHandler} {ts : Addr → Value → Option Addr → TS} {W : WX} {D : Ends} (hN : X.N.Nodup) (hi : X.N[i]? = some n) (hln : X.env.kindOf n = some .local) (hc : Names X x c)
    (hsu : ∀ (a : Addr) (oe : Obj) (cls : Value) (d : Option Addr) (pn : List (Addr × Obj)), L2N.Zn cls d oe → (∃ vs, oe.data = .fields vs) → PSs (X.suite a ((a, oe) :: pn)) (b₀ :: suite) (ts a cls d))
    (next : W cls d σ H → wpAny (model X.prog X.w) X.A (handleBy (.ref a) X.env hds) (SP X pins D) X.xe { s' with heap := h3 }) (w : wAs X.K c i ts W D cls d σ H) :
    wpAny (model X.prog X.w) X.A (handleBy (.ref a) X.env (.ExceptHandler (some (.Name x np)) (some n) (b₀ :: suite) pos :: hds)) (SP X pins D) X.xe { s' with heap := h3 } := by
  obtain ⟨b, hb, yes, no⟩ := w
  obtain ⟨oe, he, hz, hd, S3⟩ := g.inS
  have ok := g.J.ok
  have look : PySem.W.Looks (model X.prog X.w) h3 (typeOf (.ref a)) cls := fun A Q E s k q => wpAny_typeOf_ref (k _ _ he) (by rw [hz.1]; exact q)
  have mt := PySem.W.exm_one (M := model X.prog X.w) g.inv.kIn look hb
  have test : ∀ {Q E : Value → Shared → Prop}, Q c { s' with heap := h3 } → wpAny (model X.prog X.w) (X.A.mark (some (.ref a))) (eval (.Name x np) X.env) Q E { s' with heap := h3 } := fun {Q E} q => by
    obtain ⟨hg, hd, z⟩ := hc
    rcases z with hm | ⟨hm, hv, hn⟩
    · exact ld_glob (X := X.suite a ((a, oe) :: (X.pn ++ pins))) S3 hg hm q hd
    · exact ld_blt (X := X.suite a ((a, oe) :: (X.pn ++ pins))) S3 hg hm hv q hn hd
  refine wpAny_handleBy_cons (codeAny_handlers_test ?_) (by intro q; cases q)
  refine test (mt.here ?_)
  cases b with
  | false => exact next (no rfl)
  | true =>
    refine codeAny_handlers_suite_as ?_
    refine HandSPX.lands_againZ g.fl fun h4 fl4 up4 => ?_
    obtain ⟨oe4, he4, hz4, hd4, S4⟩ := (g.again fl4 up4).inS
    refine store_ok (X := X.suite a ((a, oe4) :: (X.pn ++ pins))) (v := .ref a) S4 hN hi (.inl hln) rfl (fun s5 S5 => ?_) (.inr hln)
    refine wpAny_mono ((hsu a oe4 cls d (X.pn ++ pins) hz4 hd4).run [] s5 _ H _ S5 (yes rfl a g.na)) (fun f s6 z => ?_) (fun _ _ z => False.elim z)
    have gone : ∀ {σ6 : L2.St} {H6 : Hp} {Q : Shared → Prop}, Inv (X.suite a ((a, oe4) :: (X.pn ++ pins))) [] σ6 H6 s6 → (∀ s7, Inv X pins (σ6.set i none) H6 s7 → Q s7) → wpAny (model X.prog X.w) X.A (do bindName X.env n .none; unbindBehindTheSuite X.env n pos) (fun _ s7 => Q s7) X.xe s6 :=
      fun {σ6 H6 Q} S6 q => gone_ok (S6.unsuite ok) hN hi hln q
    cases f with
    | next => obtain ⟨_, _, S6, q⟩ := z; exact gone S6 fun s7 J => ⟨_, _, J, q⟩
    | brk => obtain ⟨_, _, S6, q⟩ := z; exact gone S6 fun s7 J => ⟨_, _, J, q⟩
    | cont => obtain ⟨_, _, S6, q⟩ := z; exact gone S6 fun s7 J => ⟨_, _, J, q⟩
    | ret u => obtain ⟨_, _, _, S6, r, q⟩ := z; exact gone S6 fun s7 J => ⟨_, _, _, J, r, q⟩
end
section
variable {X : Cx} {x1 x2 n : Str} {c1 c2 : Value} {i : Nat} {body su1 su2 : List Stmt} {b1 b2 : Stmt} {np1 np2 pos pos1 pos2 : Pos} {tb : WX → TS} {t1 t2 : Addr → Value → Option Addr → TS} {Wout : WX}
theorem ps_try2 (hs : X.stack = X.env :: X.outer) (hf : X.env.frame = some X.env.locals) (hN : X.N.Nodup) (hi : X.N[i]? = some n) (hln : X.env.kindOf n = some .local) (hc1 : Names X x1 c1) (hc2 : Names X x2 c2) (tk : L2N.Takes X Wout)
    (hb : ∀ (W : WX) (pn : List (Addr × Obj)) (xe : Value → Shared → Prop), L2N.Takes (X.tr pn xe) W → PassesOwn (model X.prog X.w) X.A X.env xe → PSs (X.tr pn xe) body (tb W))
    (hsu1 : ∀ (a : Addr) (oe : Obj) (cls : Value) (d : Option Addr) (pn : List (Addr × Obj)), L2N.Zn cls d oe → (∃ vs, oe.data = .fields vs) → PSs (X.suite a ((a, oe) :: pn)) (b1 :: su1) (t1 a cls d))
    (hsu2 : ∀ (a : Addr) (oe : Obj) (cls : Value) (d : Option Addr) (pn : List (Addr × Obj)), L2N.Zn cls d oe → (∃ vs, oe.data = .fields vs) → PSs (X.suite a ((a, oe) :: pn)) (b2 :: su2) (t2 a cls d)) :
    PS X (.Try body [.ExceptHandler (some (.Name x1 np1)) (some n) (b1 :: su1) pos1, .ExceptHandler (some (.Name x2 np2)) (some n) (b2 :: su2) pos2] [] [] pos) (fun D σ H => tb (wAs X.K c1 i t1 (wAs X.K c2 i t2 Wout D) D) D σ H) := by
  refine ⟨fun pins s σ H D I h => ?_⟩
  have ok := I.ok
  refine wpAny_Try_except (wpAny_mono ((hb (wAs X.K c1 i t1 (wAs X.K c2 i t2 Wout D) D) (X.pn ++ pins) (fun e s1 => wpAny (model X.prog X.w) X.A (noteFrame e X.env) (fun _ s2 => wpAny (model X.prog X.w) X.A (setFlight e none) (fun _ s3 =>
    wpAny (model X.prog X.w) X.A (handleBy e X.env [.ExceptHandler (some (.Name x1 np1)) (some n) (b1 :: su1) pos1, .ExceptHandler (some (.Name x2 np2)) (some n) (b2 :: su2) pos2]) (SP X pins D) X.xe s3) X.xe s2) X.xe s1) (fun u s' z => ?_) PassesOwn.looking).run [] s σ H D (I.toTry _) h) (fun f s1 z => ?_) (fun e s1 he => he))
  · obtain ⟨a, B, sI, pins', σ', H', cls, d, rfl, J, nb, up, sky, na, os, ag, w⟩ := z
    refine L2N.Sky.land L2N.Zn.steady (show X.A.frames = some (X.env :: X.outer) by rw [ok.frames, hs]) hf (show Sky B (X.env :: X.outer) a (L2N.Zn cls d) X.env.locals s'.heap by rw [← hs]; exact sky) fun h3 fl up3 => ?_
    have g : Ground X pins B sI a cls d σ' H' s' h3 := ⟨hs, hf, J.ofTry ok, nb, up.trans up3, fl, na, os, ag⟩
    exact g.clause hN hi hln hc1 hsu1 (fun w => g.clause hN hi hln hc2 hsu2 (fun w => g.out tk w) w) w
  · cases f with
    | next => obtain ⟨_, _, J, q⟩ := z; exact wpAny_execs_nil ⟨_, _, J.ofTry ok, q⟩
    | brk => obtain ⟨_, _, J, q⟩ := z; exact ⟨_, _, J.ofTry ok, q⟩
    | cont => obtain ⟨_, _, J, q⟩ := z; exact ⟨_, _, J.ofTry ok, q⟩
    | ret u => obtain ⟨_, _, _, J, r, q⟩ := z; exact ⟨_, _, _, J.ofTry ok, r, q⟩
end
/-! ### as data -/
noncomputable def mTry2 (i j n : Nat) (f : MF) (ml : ML) (nm1 : Str → List Str) (hit1 : Str → Bool) (ms1 : Str → Addr → Addr → MS) (nm2 : Str → List Str) (hit2 : Str → Bool) (ms2 : Str → Addr → Addr → MS) : MS := fun s => match ml s with
  | none => .no
  | some ds => if ds.length = n then (match f ds with
    | .ex c fs => if hit1 c = true then uniO fun a dd => clearO j (ms1 c a dd (s.set j (some (.kd (.exc a dd (fieldsD (nm1 c) fs))))))
      else if hit2 c = true then uniO fun a dd => clearO j (ms2 c a dd (s.set j (some (.kd (.exc a dd (fieldsD (nm2 c) fs)))))) else .no
    | o => match callR o with
      | some d => .nx (s.set i (some (.sh d)))
      | none => .no) else .no
section
variable {K : Fg} {X : Cx} {C : XC} {E : XK} {ml : ML} {x cx1 cx2 nm : Str} {tab : Tab} {k k' n i j : Nat} {f : MF} {p np1 np2 pos pos1 pos2 : Pos} {st b1 b2 : Stmt} {su1 su2 : List Stmt} {nm1 nm2 : Str → List Str} {hit1 hit2 : Str → Bool} {ms1 ms2 : Str → Addr → Addr → MS} {cv1 cv2 : Value}
theorem s_try2 (hK : X.K = K) (hs : X.stack = X.env :: X.outer) (hf : X.env.frame = some X.env.locals) (hN : X.N.Nodup) (hj : X.N[j]? = some nm) (hln : X.env.kindOf nm = some .local) (hc1 : Names X cx1 cv1) (hc2 : Names X cx2 cv2)
    (hset : ∀ (W : WX) (pn : List (Addr × Obj)) (xe : Value → Shared → Prop), L2N.Takes (X.tr pn xe) W → PS (X.tr pn xe) st (tAsg (tCallSD (spD K (CXC K tab) n f) [] (WE W) (tAb K ml)) (gName i)))
    (hex1 : ∀ c C ns, tab c = some (C, ns) → hit1 c = true → PySem.W.exmOne K (.ref C) cv1 = some true ∧ ns = nm1 c)
    (hex2 : ∀ c C ns, tab c = some (C, ns) → hit2 c = true → PySem.W.exmOne K (.ref C) cv1 = some false ∧ PySem.W.exmOne K (.ref C) cv2 = some true ∧ ns = nm2 c)
    (hsu1 : ∀ (c : Str) (Ca a dd : Addr) (ns : List Str) (oe : Obj) (pn : List (Addr × Obj)), tab c = some (Ca, ns) → hit1 c = true → L2N.Zn (.ref Ca) (some dd) oe → (∃ vs, oe.data = .fields vs) → XSs K C0 E0 (X.suite a ((a, oe) :: pn)) (b1 :: su1) (ms1 c a dd))
    (hsu2 : ∀ (c : Str) (Ca a dd : Addr) (ns : List Str) (oe : Obj) (pn : List (Addr × Obj)), tab c = some (Ca, ns) → hit2 c = true → L2N.Zn (.ref Ca) (some dd) oe → (∃ vs, oe.data = .fields vs) → XSs K C0 E0 (X.suite a ((a, oe) :: pn)) (b2 :: su2) (ms2 c a dd)) :
    XS K C E X (.Try [st] [.ExceptHandler (some (.Name cx1 np1)) (some nm) (b1 :: su1) pos1, .ExceptHandler (some (.Name cx2 np2)) (some nm) (b2 :: su2) pos2] [] [] pos) (mTry2 i j n f ml nm1 hit1 ms1 nm2 hit2 ms2) := by
  subst hK
  have suite : ∀ {hit : Str → Bool} {ms : Str → Addr → Addr → MS} {bs : List Stmt}, (∀ (c : Str) (Ca a dd : Addr) (ns : List Str) (oe : Obj) (pn : List (Addr × Obj)), tab c = some (Ca, ns) → hit c = true → L2N.Zn (.ref Ca) (some dd) oe → (∃ vs, oe.data = .fields vs) → XSs X.K C0 E0 (X.suite a ((a, oe) :: pn)) bs (ms c a dd)) →
      ∀ (a : Addr) (oe : Obj) (cls : Value) (d : Option Addr) (pn : List (Addr × Obj)), L2N.Zn cls d oe → (∃ vs, oe.data = .fields vs) → PSs (X.suite a ((a, oe) :: pn)) bs (fun Dn σ H => ∃ c C ns dd, cls = .ref C ∧ d = some dd ∧ tab c = some (C, ns) ∧ hit c = true ∧ sD X.K C0 E0 (ms c a dd) Dn σ H) :=
    fun {hit ms bs} hsu a oe cls d pn hz hfl => ⟨fun pins s σ H Dn I ⟨c, C, ns, dd, e1, e2, h1, h2, h3⟩ => by
      subst e1 e2
      exact (hsu c C a dd ns oe pn h1 h2 hz hfl).run pins s σ H Dn I h3⟩
  refine ps_imp (ps_try2 (i := j) (Wout := fun _ _ _ _ => False) (tb := fun W => tAsg (tCallSD (spD X.K (CXC X.K tab) n f) [] (WE W) (tAb X.K ml)) (gName i))
    hs hf hN hj hln hc1 hc2 takesN0 (fun W pn xe tk _ => pss_one (hset W pn xe tk)) (suite hsu1) (suite hsu2)) ?_
  intro Dn σ H ⟨H0, G, s, r, q⟩
  unfold mTry2 at q
  cases hm : ml s with
  | none => rw [hm] at q; exact q.elim
  | some ds =>
    simp only [hm] at q
    by_cases hn : ds.length = n
    · rw [if_pos hn] at q
      refine ⟨H0, G, s, ds, r, hm, fun vs H1 e1 rv => ⟨fun _ => True, ds, hn, by rw [List.append_nil]; exact rv, ?_⟩⟩
      have r1 := r.mono e1
      have norm : ∀ {o : Out} {d : D}, callR o = some d → Post X.K H0 G C E σ s H Dn (match callR o with
          | some d => .nx (s.set i (some (.sh d)))
          | none => .no) → ∀ v H2, Ex H1 H2 → R X.K (Cl G σ s) H2 v d → Dn.nx (σ.set i (some v)) H2 := fun {o d} ho hq v H2 e2 hv => by
        rw [ho] at hq
        exact hq _ H2 ((r1.mono e2).set i hv) ((Tr.set (H := H2) i).ex (e1.trans e2))
      have one : ∀ {c : Str} {fs : List D} {nms : Str → List Str} {ms : Str → Addr → Addr → MS} {Ca a dd : Addr} {ns : List Str} {us : List V} {H2 : Hp}, Post X.K H0 G C E σ s H Dn (uniO fun a dd => clearO j (ms c a dd (s.set j (some (.kd (.exc a dd (fieldsD (nms c) fs))))))) → ns = nms c → Ex H1 H2 →
          H2 dd = some (.xd (fieldsOf ns us)) → ns.length = us.length → RA X.K (fun _ => False) H2 us fs →
          sD X.K C0 E0 (ms c a dd) { nx := fun σ' H' => Dn.nx (σ'.set j none) H', rt := Dn.rt, bk := fun σ' H' => Dn.bk (σ'.set j none) H', ct := fun σ' H' => Dn.ct (σ'.set j none) H' } (σ.set j (some (.ref a))) H2 := by
        intro c fs nms ms Ca a dd ns us H2 hq hns e2 hd hl ra
        refine ⟨H0, G, _, (r1.mono e2).setS j (has_exc (a := a) hd hl ra), ?_⟩
        rw [hns]
        have tr : Tr σ s H (σ.set j (some (V.ref a))) (s.set j (some (.kd (.exc a dd (fieldsD (nms c) fs))))) H2 := (Tr.setK (H := H2) j).ex (e1.trans e2)
        generalize hu : (uniO fun a dd => clearO j (ms c a dd (s.set j (some (.kd (.exc a dd (fieldsD (nms c) fs))))))) = o at hq
        by_cases hno : o = .no
        · rw [hno] at hq; exact hq.elim
        · have h5 := uniO_ne hu hno a dd
          exact clear_post (by rw [h5]; exact hno) (by rw [h5]; exact hq) tr
      cases ho : f ds with
      | nx s' =>
        rw [ho] at q
        exact fun H2 e2 => norm (o := .nx s') rfl q _ H2 e2 .non
      | rt d =>
        rw [ho] at q
        dsimp only at q
        cases hcr : callR (.rt d) with
        | none => rw [hcr] at q; exact q.elim
        | some d' =>
          have hcr' := hcr
          obtain ⟨hfd, e⟩ := if_some (show (if flatD d = true then some d else none) = some d' from hcr')
          cases e
          exact fun v H2 e2 hv => norm (o := .rt d) hcr q _ H2 e2 (R.flat _ _ hfd hv)
      | rtl es =>
        rw [ho] at q
        dsimp only at q
        cases hcr : callR (.rtl es) with
        | none => rw [hcr] at q; exact q.elim
        | some d' =>
          have hcr' := hcr
          obtain ⟨hfd, e⟩ := if_some (show (if flatD.go es = true then some (PyData.list es) else none) = some d' from hcr')
          cases e
          exact fun p xs H2 hp e2 h2 ra => norm (o := .rtl es) hcr q _ H2 e2 (.lst (.inl ⟨⟨r1.new p hp, r1.own_not hp⟩, .inl h2⟩) (RA.flat _ _ hfd ra))
      | ex c fs =>
        rw [ho] at q
        dsimp only at q
        by_cases g1 : hit1 c = true
        · rw [if_pos g1] at q
          rintro cls d H2 e2 ⟨Ca, ns, dd, us, ht, rfl, rfl, hd, hl, ra⟩
          obtain ⟨x1, x2⟩ := hex1 c Ca ns ht g1
          exact ⟨true, x1, fun _ a na => ⟨c, Ca, ns, dd, rfl, rfl, ht, g1, one (Ca := Ca) q x2 e2 hd hl ra⟩, fun z => nomatch z⟩
        · rw [if_neg g1] at q
          by_cases g2 : hit2 c = true
          · rw [if_pos g2] at q
            rintro cls d H2 e2 ⟨Ca, ns, dd, us, ht, rfl, rfl, hd, hl, ra⟩
            obtain ⟨x1, x2, x3⟩ := hex2 c Ca ns ht g2
            exact ⟨false, x1, (fun z => nomatch z), fun _ => ⟨true, x2, fun _ a na => ⟨c, Ca, ns, dd, rfl, rfl, ht, g2, one (Ca := Ca) q x3 e2 hd hl ra⟩, fun z => nomatch z⟩⟩
          · rw [if_neg g2] at q
            exact q.elim
      | bk s' => rw [ho] at q; exact q.elim
      | ct s' => rw [ho] at q; exact q.elim
      | no => rw [ho] at q; exact q.elim
    · rw [if_neg hn] at q
      exact q.elim
end
end DD

/-! # Reckoning with the data forms -/
namespace DD
open PySem L2
def Out.andThen (o : Out) (b : MS) : Out := match o with
  | .nx s => b s
  | o => o
@[simp] theorem at_nx {s : S} {b : MS} : Out.andThen (.nx s) b = b s := rfl
@[simp] theorem at_no {b : MS} : Out.andThen .no b = .no := rfl
@[simp] theorem at_rt {d : D} {b : MS} : Out.andThen (.rt d) b = .rt d := rfl
@[simp] theorem at_rtl {d : List D} {b : MS} : Out.andThen (.rtl d) b = .rtl d := rfl
@[simp] theorem at_bk {s : S} {b : MS} : Out.andThen (.bk s) b = .bk s := rfl
@[simp] theorem at_ct {s : S} {b : MS} : Out.andThen (.ct s) b = .ct s := rfl
@[simp] theorem at_ite {p : Prop} [Decidable p] {x y : Out} {b : MS} : Out.andThen (if p then x else y) b = if p then Out.andThen x b else Out.andThen y b := by split <;> rfl
@[simp] theorem e_seq {a b : MS} {s : S} : mSeq a b s = Out.andThen (a s) b := by unfold mSeq Out.andThen; cases a s <;> rfl
@[simp] theorem e_next {s : S} : mNext s = .nx s := rfl
@[simp] theorem e_pass {s : S} : mPass s = .nx s := rfl
@[simp] theorem e_brk {s : S} : mBrk s = .bk s := rfl
@[simp] theorem e_ct {s : S} : mCt s = .ct s := rfl
@[simp] theorem e_ifS {c : MB} {a b : MS} {s : S} : mIfS c a b s = (c s).elim .no fun t => if t = true then a s else b s := by
  unfold mIfS
  cases c s with
  | none => rfl
  | some t => cases t <;> rfl
@[simp] theorem e_asg {i : Nat} {m : M} {s : S} : mAsg i m s = (m s).elim .no fun d => .nx (s.set i (some (.sh d))) := by unfold mAsg; cases m s <;> rfl
@[simp] theorem e_asgL {i : Nat} {m : ML} {s : S} : mAsgL i m s = (m s).elim .no fun d => .nx (s.set i (some (.ow d))) := by unfold mAsgL; cases m s <;> rfl
@[simp] theorem e_asgG {g : MG} {m : M} {s : S} : mAsgG g m s = ((m s).bind fun d => g d s).elim .no .nx := by unfold mAsgG; cases (m s).bind fun d => g d s <;> rfl
@[simp] theorem e_ret {m : M} {s : S} : mRet m s = (m s).elim .no .rt := by unfold mRet; cases m s <;> rfl
@[simp] theorem e_retL {m : ML} {s : S} : mRetL m s = (m s).elim .no .rtl := by unfold mRetL; cases m s <;> rfl
@[simp] theorem e_drop {m : M} {s : S} : mDrop m s = (m s).elim .no fun _ => .nx s := by unfold mDrop; cases m s <;> rfl
def owAt : Option (Option Sl) → Option (List D)
  | some (some (.ow ds)) => some ds
  | _ => none
def shAt : Option (Option Sl) → Option D
  | some (some (.sh d)) => some d
  | _ => none
def anyAt : Option (Option Sl) → Option D
  | some (some (.sh d)) => some d
  | some (some (.ow ds)) => some (.list ds)
  | _ => none
def retAt : Option (Option Sl) → Out
  | some (some (.ow ds)) => .rtl ds
  | some (some (.sh d)) => .rt d
  | _ => .no
@[simp] theorem owAt_1 {ds : List D} : owAt (some (some (.ow ds))) = some ds := rfl
@[simp] theorem owAt_2 {d : D} : owAt (some (some (.sh d))) = none := rfl
@[simp] theorem shAt_1 {d : D} : shAt (some (some (.sh d))) = some d := rfl
@[simp] theorem anyAt_1 {d : D} : anyAt (some (some (.sh d))) = some d := rfl
@[simp] theorem anyAt_2 {ds : List D} : anyAt (some (some (.ow ds))) = some (.list ds) := rfl
@[simp] theorem retAt_1 {ds : List D} : retAt (some (some (.ow ds))) = .rtl ds := rfl
@[simp] theorem retAt_2 {d : D} : retAt (some (some (.sh d))) = .rt d := rfl
@[simp] theorem e_app {i : Nat} {m : M} {s : S} : mApp i m s = (owAt s[i]?).elim .no fun ds => (m s).elim .no fun d => if ds.length < 100000 then .nx (s.set i (some (.ow (ds ++ [d])))) else .no := by unfold mApp; generalize s[i]? = o; rcases o with _ | _ | _ | _ | _ <;> first | rfl | (cases m s <;> rfl)
@[simp] theorem e_setIx {i : Nat} {k m : M} {s : S} : mSetIx i k m s = (owAt s[i]?).elim .no fun ds => ((m s).bind fun d => (k s).bind fun kd => (intOf kd).bind fun n => (ixN ds.length n).map fun j => (j, d)).elim .no fun p => .nx (s.set i (some (.ow (ds.set p.1 p.2)))) := by unfold mSetIx; generalize s[i]? = o; rcases o with _ | _ | _ | ds | _ <;> first | rfl | (simp only [owAt_1, Option.elim_some]; generalize ((m s).bind fun d => (k s).bind fun kd => (intOf kd).bind fun n => (ixN ds.length n).map fun j => (j, d)) = w; cases w <;> rfl)
@[simp] theorem e_retO {i : Nat} {s : S} : mRetO i s = retAt s[i]? := by unfold mRetO; generalize s[i]? = o; rcases o with _ | _ | _ | _ | _ <;> rfl
@[simp] theorem e_var {i : Nat} {s : S} : mVar i s = shAt s[i]? := by unfold mVar; generalize s[i]? = o; rcases o with _ | _ | _ | _ | _ <;> rfl
@[simp] theorem e_varB {i : Nat} {s : S} : mVarB i s = anyAt s[i]? := by unfold mVarB; generalize s[i]? = o; rcases o with _ | _ | _ | _ | _ <;> rfl
@[simp] theorem e_share {i : Nat} {m : MS} {s : S} : mShare i m s = m (shareS i s) := rfl
@[simp] theorem e_shareS {i : Nat} {s : S} : shareS i s = (owAt s[i]?).elim s fun ds => s.set i (some (.sh (.list ds))) := by unfold shareS; generalize s[i]? = o; rcases o with _ | _ | _ | _ | _ <;> rfl
@[simp] theorem e_revS {i : Nat} {s : S} : mRevS i s = (owAt s[i]?).elim .no fun ds => .nx (s.set i (some (.ow ds.reverse))) := by unfold mRevS; generalize s[i]? = o; rcases o with _ | _ | _ | _ | _ <;> rfl
@[simp] theorem e_retN {s : S} : mRetN s = .rt .none := rfl
@[simp] theorem e_C {d : D} {s : S} : mC d s = some d := rfl
@[simp] theorem e_L {m : ML} {s : S} : mL m s = (m s).map .list := rfl
@[simp] theorem e_2 {f : D → D → Option D} {a b : M} {s : S} : m2 f a b s = (a s).bind fun x => (b s).bind fun y => f x y := rfl
@[simp] theorem e_1 {f : D → Option D} {a : M} {s : S} : m1 f a s = (a s).bind f := rfl
@[simp] theorem e_T {m : M} {s : S} : mT m s = (m s).bind boolOf := rfl
@[simp] theorem b_of {b : Bool} : boolOf (.bool b) = some b := rfl
@[simp] theorem i_of {i : Int} : intOf (.int i) = some i := rfl
@[simp] theorem e_chain {f g : D → D → Option D} {a b c : M} {s : S} : mChain f g a b c s = (a s).bind fun x => (b s).bind fun y => (f x y).bind fun k => (boolOf k).bind fun t => if t = true then (c s).bind fun z => g y z else some (.bool false) := rfl
@[simp] theorem e_and {a b : MB} {s : S} : mAnd a b s = (a s).bind fun x => if x = true then b s else some false := rfl
@[simp] theorem e_or {a b : MB} {s : S} : mOr a b s = (a s).bind fun x => if x = true then some true else b s := rfl
@[simp] theorem e_not {a : MB} {s : S} : mNot a s = (a s).map (!·) := rfl
@[simp] theorem e_andV {a b : M} {s : S} : mAndV a b s = (a s).bind fun x => (boolOf x).bind fun t => if t = true then b s else some (.bool false) := rfl
@[simp] theorem e_orV {a b : M} {s : S} : mOrV a b s = (a s).bind fun x => (boolOf x).bind fun t => if t = true then some (.bool true) else b s := rfl
@[simp] theorem e_notV {a : M} {s : S} : mNotV a s = (a s).bind fun x => (boolOf x).map fun t => .bool (!t) := rfl
@[simp] theorem e_if {c : MB} {a b : M} {s : S} : mIf c a b s = (c s).bind fun x => if x = true then a s else b s := rfl
@[simp] theorem e_nil {s : S} : mNil s = some [] := rfl
@[simp] theorem e_cons {a : M} {r : ML} {s : S} : mCons a r s = (a s).bind fun x => (r s).map (x :: ·) := rfl
@[simp] theorem e_tup {r : ML} {s : S} : mTup r s = (r s).bind fun ds => if ds.length ≤ 100000 then some (.tuple ds) else none := rfl
@[simp] theorem e_lst {r : ML} {s : S} : mLst r s = (r s).bind fun ds => if ds.length ≤ 100000 then some ds else none := rfl
@[simp] theorem e_bi {f : List D → Option D} {as : ML} {s : S} : mBi f as s = (as s).bind f := rfl
@[simp] theorem e_isi {f : D → Bool} {m : M} {s : S} : mIsi f m s = (m s).map fun d => .bool (f d) := rfl
@[simp] theorem e_iSeq {m : M} {s : S} : iSeq m s = (m s).bind items := rfl
@[simp] theorem items_1 {ds : List D} : items (.list ds) = some ds := rfl
@[simp] theorem items_2 {ds : List D} : items (.tuple ds) = some ds := rfl
@[simp] theorem fList_1 {ds : List D} : fList (.list ds) = some ds := rfl
@[simp] theorem fTup_1 {ds : List D} : fTup (.tuple ds) = some ds := rfl
@[simp] theorem e_tupOf {m : M} {s : S} : mTupOf m s = (m s).bind fun d => (items d).map .tuple := rfl
@[simp] theorem e_rng1 {ml : ML} {s : S} {n : Int} (h : ml s = some [.int n]) (hl : lim n = true) : iRange1 ml s = some (rangeD 0 n.toNat) := by unfold iRange1; simp [h, hl]
@[simp] theorem e_rng2 {ml : ML} {s : S} {i j : Int} (h : ml s = some [.int i, .int j]) (hl : lim i = true) (hl2 : lim j = true) : iRange2 ml s = some (rangeD i (j - i).toNat) := by unfold iRange2; simp [h, hl, hl2]
theorem lim_in {n : Int} (h : -1000000 ≤ n ∧ n ≤ 1000000) : lim n = true := decide_eq_true h
@[simp] theorem e_gN {i : Nat} {d : D} {s : S} : gN i d s = some (s.set i (some (.sh d))) := rfl
@[simp] theorem e_gSeq {n : Nat} {g : MGs} {d : D} {s : S} : gSeq n g d s = (items d).bind fun ds => if ds.length = n then g ds s else none := rfl
@[simp] theorem e_gsNil {s : S} : gsNil [] s = some s := rfl
@[simp] theorem e_gsCons {g : MG} {r : MGs} {d : D} {ds : List D} {s : S} : gsCons g r (d :: ds) s = (g d s).bind fun s1 => r ds s1 := rfl
@[simp] theorem e_oNone {s : S} : oNone s = some none := rfl
@[simp] theorem e_oSome {m : M} {s : S} : oSome m s = (m s).bind fun d => (intOf d).map some := rfl
@[simp] theorem e_cutL {m : M} {lo hi : MO} {s : S} : mCutL m lo hi s = (m s).bind fun d => (fList d).bind fun ds => (lo s).bind fun l => (hi s).map fun u => cutD ds l u := rfl
@[simp] theorem e_cutT {m : M} {lo hi : MO} {s : S} : mCutT m lo hi s = (m s).bind fun d => (fTup d).bind fun ds => (lo s).bind fun l => (hi s).map fun u => .tuple (cutD ds l u) := rfl
@[simp] theorem e_revL {m : M} {s : S} : mRevL m s = (m s).bind fun d => (fList d).map List.reverse := rfl
@[simp] theorem e_cat {a b : M} {s : S} : mCat a b s = (a s).bind fun x => (fList x).bind fun xs => (b s).bind fun y => (fList y).bind fun ys => if xs.length + ys.length ≤ 100000 then some (xs ++ ys) else none := rfl
@[simp] theorem e_rep {a : ML} {b : M} {s : S} : mRep a b s = (a s).bind fun xs => (b s).bind fun y => (intOf y).bind fun k => if k ≤ 100000 ∧ xs.length * k.toNat ≤ 100000 ∧ -100000 ≤ k then some (List.replicate k.toNat xs).flatten else none := rfl
@[simp] theorem e_sorted {m : M} {s : S} : mSorted m s = (m s).bind fun d => (fList d).bind fSorted := rfl
def callV : Out → Option D
  | .nx _ => some .none
  | .rt d => DD.guard flatD d
  | .rtl es => if flatD.go es = true then some (.list es) else none
  | _ => none
@[simp] theorem e_callB {n : Nat} {f : MF} {as : ML} {s : S} : mCallB n f as s = (as s).bind fun ds => if ds.length = n then callV (f ds) else none := by
  unfold mCallB
  cases as s with
  | none => rfl
  | some ds =>
    simp only [Option.bind_some]
    split
    · cases f ds <;> rfl
    · rfl
theorem callV_rt {d : D} (h : flatD d = true) : callV (.rt d) = some d := if_pos h
@[simp] theorem e_callBL {n : Nat} {f : MF} {as : ML} {s : S} : mCallBL n f as s = (as s).bind fun ds => if ds.length = n then (lstOf (f ds)).bind okList else none := rfl
theorem lst_1 {ds : List D} : lstOf (.rtl ds) = some ds := rfl
theorem ok_1 {ds : List D} (h : flatD.go ds = true) : okList ds = some ds := if_pos h

/-! ### loops -/
def Turn (P : S → Prop) (Q : Out → Prop) (rest : MS) : Out → Prop
  | .nx s => P s
  | .ct s => P s
  | .bk s => Q (rest s)
  | .rt d => Q (.rt d)
  | .rtl ds => Q (.rtl ds)
  | .ex c fs => Q (.ex c fs)
  | .no => False
theorem mFor_wp {Q : Out → Prop} {g : MG} {body rest : MS} : ∀ {ds : List D} {s : S} (P : Nat → S → Prop), P 0 s →
    (∀ (i : Nat) (d : D) (s1 : S), ds[i]? = some d → P i s1 → ∃ s2, g d s1 = some s2 ∧ Turn (P (i + 1)) Q rest (body s2)) → (∀ s1, P ds.length s1 → Q (rest s1)) → Q (Out.andThen (mFor g body ds s) rest)
  | [], s, P, h0, hs, hd => hd s h0
  | d :: ds, s, P, h0, hs, hd => by
    obtain ⟨s2, h1, h2⟩ := hs 0 d s rfl h0
    rw [mFor_cons, h1]
    have go : ∀ s3, P 1 s3 → Q (Out.andThen (mFor g body ds s3) rest) := fun s3 h3 => mFor_wp (fun i s => P (i + 1) s) h3 (fun i d s1 hd' h => hs (i + 1) d s1 (by simpa using hd') h) (fun s1 h => hd s1 h)
    cases hb : body s2 with
    | nx s3 => rw [hb] at h2; simp only [hb]; exact go s3 h2
    | ct s3 => rw [hb] at h2; simp only [hb]; exact go s3 h2
    | bk s3 => rw [hb] at h2; simp only [hb]; exact h2
    | rt d => rw [hb] at h2; simp only [hb]; exact h2
    | rtl d => rw [hb] at h2; simp only [hb]; exact h2
    | ex c fs => rw [hb] at h2; simp only [hb]; exact h2
    | no => rw [hb] at h2; simp only [hb]; exact h2.elim
theorem for_seq {Q : Out → Prop} {mi : ML} {g : MG} {body rest : MS} {s : S} {ds : List D} (hmi : mi s = some ds) (P : Nat → S → Prop) (h0 : P 0 s)
    (hs : ∀ (i : Nat) (d : D) (s1 : S), ds[i]? = some d → P i s1 → ∃ s2, g d s1 = some s2 ∧ Turn (P (i + 1)) Q rest (body s2)) (hd : ∀ s1, P ds.length s1 → Q (rest s1)) : Q (Out.andThen (mForS mi g body s) rest) := by
  unfold mForS
  rw [hmi]
  exact mFor_wp P h0 hs hd
theorem for_last {Q : Out → Prop} {mi : ML} {g : MG} {body : MS} {s : S} {ds : List D} (hmi : mi s = some ds) (P : Nat → S → Prop) (h0 : P 0 s)
    (hs : ∀ (i : Nat) (d : D) (s1 : S), ds[i]? = some d → P i s1 → ∃ s2, g d s1 = some s2 ∧ Turn (P (i + 1)) Q .nx (body s2)) (hd : ∀ s1, P ds.length s1 → Q (.nx s1)) : Q (mForS mi g body s) := by
  have := for_seq (rest := .nx) hmi P h0 hs hd
  have e : Out.andThen (mForS mi g body s) .nx = mForS mi g body s := by cases mForS mi g body s <;> rfl
  rwa [e] at this
@[simp] theorem turn_nx {P : S → Prop} {Q : Out → Prop} {rest : MS} {s : S} : Turn P Q rest (.nx s) = P s := rfl
@[simp] theorem turn_ct {P : S → Prop} {Q : Out → Prop} {rest : MS} {s : S} : Turn P Q rest (.ct s) = P s := rfl
@[simp] theorem turn_bk {P : S → Prop} {Q : Out → Prop} {rest : MS} {s : S} : Turn P Q rest (.bk s) = Q (rest s) := rfl
@[simp] theorem turn_rt {P : S → Prop} {Q : Out → Prop} {rest : MS} {d : D} : Turn P Q rest (.rt d) = Q (.rt d) := rfl
@[simp] theorem turn_rtl {P : S → Prop} {Q : Out → Prop} {rest : MS} {d : List D} : Turn P Q rest (.rtl d) = Q (.rtl d) := rfl
theorem turn_ite {P : S → Prop} {Q : Out → Prop} {rest : MS} {p : Prop} [Decidable p] {x y : Out} (h1 : p → Turn P Q rest x) (h2 : ¬ p → Turn P Q rest y) : Turn P Q rest (if p then x else y) := by
  split
  · exact h1 (by assumption)
  · exact h2 (by assumption)
theorem range_get {lo : Int} {n i : Nat} {d : D} (h : (rangeD lo n)[i]? = some d) : i < n ∧ d = .int (lo + (i : Nat)) := by
  obtain ⟨hl, h⟩ := List.getElem?_eq_some_iff.mp h
  unfold rangeD at hl h
  rw [List.length_map, List.length_range] at hl
  refine ⟨hl, ?_⟩
  rw [← h, List.getElem_map, List.getElem_range]
theorem range_get0 {n i : Nat} {d : D} (h : (rangeD 0 n)[i]? = some d) : i < n ∧ d = .int (i : Nat) := by
  obtain ⟨h1, h2⟩ := range_get h
  exact ⟨h1, by rw [h2, Int.zero_add]⟩
theorem range_len {lo : Int} {n : Nat} : (rangeD lo n).length = n := by unfold rangeD; rw [List.length_map, List.length_range]

/-! ### plain operators at known data -/
@[simp] theorem f_add {i j : Int} : fAdd (.int i) (.int j) = some (.int (i + j)) := rfl
theorem f_addS {x y : Str} (h : x.length + y.length ≤ 100000) : fAdd (.str x) (.str y) = some (.str (x ++ y)) := by
  show (fOr fAddI fAddS) _ _ = _
  unfold fOr fAddI fInt fAddS
  simp [h]
@[simp] theorem f_sub {i j : Int} : fSub (.int i) (.int j) = some (.int (i - j)) := rfl
theorem f_mul {i j : Int} (h : -(2 ^ 64) < i ∧ i < 2 ^ 64) : fMul (.int i) (.int j) = some (.int (i * j)) := if_pos (.inl h)
theorem f_mulR {i j : Int} (h : -(2 ^ 64) < j ∧ j < 2 ^ 64) : fMul (.int i) (.int j) = some (.int (i * j)) := if_pos (.inr h)
theorem f_mulM {i n j : Int} (h : 0 < n ∧ n < 2 ^ 64) : fMul (.int (i % n)) (.int j) = some (.int (i % n * j)) := f_mul (by
  have h1 := Int.emod_nonneg i (show n ≠ 0 by omega)
  have h2 := Int.emod_lt_of_pos i h.1
  omega)
theorem f_div {i j : Int} (h : 0 < j ∧ j < 1073741824) : fDiv (.int i) (.int j) = some (.int (i / j)) := if_pos h
theorem f_mod {i j : Int} (h : 0 < j) : fMod (.int i) (.int j) = some (.int (i % j)) := if_pos h
theorem f_pow {i j : Int} (h : 0 ≤ j ∧ j ≤ 1000000 ∧ i.natAbs < 2 ^ 64) : fPow (.int i) (.int j) = some (.int (i ^ j.toNat)) := if_pos h
@[simp] theorem f_neg {i : Int} : fNeg (.int i) = some (.int (-i)) := rfl
@[simp] theorem f_lt {i j : Int} : fLt (.int i) (.int j) = some (.bool (decide (i < j))) := rfl
@[simp] theorem f_le {i j : Int} : fLe (.int i) (.int j) = some (.bool (decide (i ≤ j))) := rfl
@[simp] theorem f_gt {i j : Int} : fGt (.int i) (.int j) = some (.bool (decide (j < i))) := rfl
@[simp] theorem f_ge {i j : Int} : fGe (.int i) (.int j) = some (.bool (decide (j ≤ i))) := rfl
@[simp] theorem f_isN {d : D} : fIsN d .none = some (.bool (isNone d)) := rfl
@[simp] theorem f_notN {d : D} : fNotN d .none = some (.bool (!isNone d)) := rfl
@[simp] theorem f_eqI {i j : Int} : fEq (.int i) (.int j) = some (.bool (i == j)) := by unfold fEq; rw [if_pos (by simp [PyData.depth])]; simp [PyData.eqv]
@[simp] theorem f_neI {i j : Int} : fNe (.int i) (.int j) = some (.bool (!(i == j))) := by unfold fNe; rw [if_pos (by simp [PyData.depth])]; simp [PyData.eqv]
@[simp] theorem f_eqS {i j : Str} : fEq (.str i) (.str j) = some (.bool (i == j)) := by unfold fEq; rw [if_pos (by simp [PyData.depth])]; simp [PyData.eqv]
@[simp] theorem f_neS {i j : Str} : fNe (.str i) (.str j) = some (.bool (!(i == j))) := by unfold fNe; rw [if_pos (by simp [PyData.depth])]; simp [PyData.eqv]
@[simp] theorem f_eqB {i j : Bool} : fEq (.bool i) (.bool j) = some (.bool (i == j)) := by unfold fEq; rw [if_pos (by simp [PyData.depth])]; simp [PyData.eqv]
@[simp] theorem f_neB {i j : Bool} : fNe (.bool i) (.bool j) = some (.bool (!(i == j))) := by unfold fNe; rw [if_pos (by simp [PyData.depth])]; simp [PyData.eqv]
@[simp] theorem f_len {ds : List D} : fLen [.list ds] = some (.int ds.length) := rfl
@[simp] theorem f_lenT {ds : List D} : fLen [.tuple ds] = some (.int ds.length) := rfl
@[simp] theorem f_int {i : Int} : fInt1 [.int i] = some (.int i) := rfl
@[simp] theorem f_abs {i : Int} : fAbs [.int i] = some (.int (if i < 0 then -i else i)) := rfl
@[simp] theorem f_max {i j : Int} : fMax2 [.int i, .int j] = some (.int (if j > i then j else i)) := rfl
@[simp] theorem f_min {i j : Int} : fMin2 [.int i, .int j] = some (.int (if j < i then j else i)) := rfl
theorem atI_eq {α : Type} {xs : List α} {i : Int} : L2.atI xs i = if 0 ≤ i then xs[i.toNat]? else if -(xs.length : Int) ≤ i then xs[(i + xs.length).toNat]? else none := by
  unfold L2.atI ixN
  split
  · split
    · rfl
    · rename_i h1 h2
      rw [List.getElem?_eq_none (by omega)]; rfl
  · split <;> rfl
@[simp] theorem f_ixL {ds : List D} {i : Int} : fIx (.list ds) (.int i) = L2.atI ds i := rfl
@[simp] theorem f_ixT {ds : List D} {i : Int} : fIx (.tuple ds) (.int i) = L2.atI ds i := rfl
theorem atI_nat' {α : Type} {xs : List α} {i : Int} {x : α} (h0 : 0 ≤ i) (h : xs[i.toNat]? = some x) : L2.atI xs i = some x := by rw [atI_eq, if_pos h0, h]
theorem atI_neg {α : Type} {xs : List α} {i : Int} {x : α} (h0 : i < 0) (h1 : -(xs.length : Int) ≤ i) (h : xs[(i + xs.length).toNat]? = some x) : L2.atI xs i = some x := by rw [atI_eq, if_neg (by omega), if_pos h1, h]

/-! ### corners and paths -/
abbrev Pt := Int × Int
def eC (p : Pt) : D := .tuple [.int p.1, .int p.2]
def eP (l : List Pt) : D := .tuple (l.map eC)
theorem eC_depth (p : Pt) : (eC p).depth = 1 := by simp [eC, PyData.depth, PyData.depthAll]
theorem eCs_depth (l : List Pt) : PyData.depthAll (l.map eC) ≤ 1 := by
  induction l with
  | nil => simp [PyData.depthAll]
  | cons p l ih => simp only [List.map_cons, PyData.depthAll, eC_depth]; omega
theorem eP_depth (l : List Pt) : (eP l).depth ≤ 2 := by
  have := eCs_depth l
  simp only [eP, PyData.depth]; omega
theorem eC_eqv (p q : Pt) : PyData.eqv (eC p) (eC q) = decide (p = q) := by
  obtain ⟨a, b⟩ := p
  obtain ⟨c, d⟩ := q
  simp only [eC, PyData.eqv, PyData.eqvAll, Bool.and_true]
  by_cases h1 : a = c <;> by_cases h2 : b = d <;> simp [h1, h2]
theorem eCs_eqv : ∀ l m : List Pt, PyData.eqvAll (l.map eC) (m.map eC) = decide (l = m)
  | [], [] => by simp [PyData.eqvAll]
  | [], _ :: _ => by simp [PyData.eqvAll]
  | _ :: _, [] => by simp [PyData.eqvAll]
  | p :: l, q :: m => by
    simp only [List.map_cons, PyData.eqvAll, eC_eqv, eCs_eqv l m]
    by_cases h1 : p = q <;> by_cases h2 : l = m <;> simp [h1, h2]
theorem eP_eqv (l m : List Pt) : PyData.eqv (eP l) (eP m) = decide (l = m) := by simp only [eP, PyData.eqv, eCs_eqv]
@[simp] theorem f_eqC {p q : Pt} : fEq (eC p) (eC q) = some (.bool (decide (p = q))) := by unfold fEq; rw [if_pos (by simp [eC_depth]), eC_eqv]
@[simp] theorem f_neC {p q : Pt} : fNe (eC p) (eC q) = some (.bool (!decide (p = q))) := by unfold fNe; rw [if_pos (by simp [eC_depth]), eC_eqv]
@[simp] theorem f_inC {n : Bool} {p : Pt} {l : List Pt} : fIn n (eC p) (eP l) = some (.bool (if n then !decide (p ∈ l) else decide (p ∈ l))) := by
  have e : ((l.map eC).any fun z => PyData.eqv z (eC p)) = decide (p ∈ l) := by
    rw [List.any_map]
    induction l with
    | nil => simp
    | cons q l ih =>
      rw [List.any_cons, ih]
      simp only [Function.comp, eC_eqv]
      by_cases h1 : q = p
      · subst h1; simp
      · have : ¬ p = q := fun h => h1 h.symm
        simp [h1, this]
  unfold fIn eP
  simp only
  rw [if_pos (by have := eCs_depth l; omega), e]
@[simp] theorem flat_C (p : Pt) : flatD (eC p) = true := by simp [eC, flatD, flatD.go]
@[simp] theorem flat_Cs (l : List Pt) : flatD.go (l.map eC) = true := by
  induction l with
  | nil => rfl
  | cons p l ih => simp only [List.map_cons, flatD.go, flat_C, ih, Bool.and_self]
@[simp] theorem flat_P (l : List Pt) : flatD (eP l) = true := by simp only [eP, flatD]; exact flat_Cs l
@[simp] theorem flat_I (l : List Int) : flatD.go (l.map .int) = true := by
  induction l with
  | nil => rfl
  | cons p l ih => simp only [List.map_cons, flatD.go, flatD, ih, Bool.and_self]
def ptLt (p q : Pt) : Bool := HT.lexLt [p.1, p.2] [q.1, q.2]
@[simp] theorem f_ltC {p q : Pt} : fLt (eC p) (eC q) = some (.bool (ptLt p q)) := rfl
@[simp] theorem eC_x {p : Pt} : fIx (eC p) (.int 0) = some (.int p.1) := rfl
@[simp] theorem eC_y {p : Pt} : fIx (eC p) (.int 1) = some (.int p.2) := rfl
@[simp] theorem isT_C {p : Pt} : isTuple (eC p) = true := rfl
@[simp] theorem len_C {p : Pt} : fLen [eC p] = some (.int 2) := rfl
theorem mk_C {a b : Int} : PyData.tuple [.int a, .int b] = eC (a, b) := rfl
@[simp] theorem items_P {l : List Pt} : items (eP l) = some (l.map eC) := rfl
@[simp] theorem isN_P {l : List Pt} : isNone (eP l) = false := rfl
@[simp] theorem isN_C {p : Pt} : isNone (eC p) = false := rfl
@[simp] theorem len_P {l : List Pt} : fLen [eP l] = some (.int l.length) := by simp [eP, fLen]
@[simp] theorem ix_P {l : List Pt} {i : Int} : fIx (eP l) (.int i) = (L2.atI l i).map eC := by
  show L2.atI (l.map eC) i = _
  rw [atI_eq, atI_eq]
  simp only [List.length_map, List.getElem?_map]
  split
  · rfl
  · split <;> rfl
theorem ixL_C {l : List Pt} {i : Int} : L2.atI (l.map eC) i = (L2.atI l i).map eC := ix_P
theorem mk_P {l : List Pt} : PyData.tuple (l.map eC) = eP l := rfl
/-- numbers by a function -/
def dl (f : Nat → Int) (n : Nat) : List D := (List.range n).map fun i => .int (f i)
theorem atI_dl {f : Nat → Int} {n : Nat} {k : Int} (h : 0 ≤ k ∧ k < n) : L2.atI (dl f n) k = some (.int (f k.toNat)) := by
  have hk : k.toNat < n := by omega
  exact atI_nat' h.1 (by unfold dl; simp [hk])
theorem dl_of (ds : List Int) : ds.map PyData.int = dl (fun i => ds.getD i 0) ds.length := by
  apply List.ext_getElem?
  intro i
  unfold dl
  by_cases h : i < ds.length
  · simp [h]
  · rw [List.getElem?_eq_none (by simpa using h), List.getElem?_eq_none (by simpa using h)]
@[simp] theorem dl_flat {f : Nat → Int} {n : Nat} : flatD.go (dl f n) = true := by
  unfold dl
  rw [show (fun i => PyData.int (f i)) = PyData.int ∘ f from rfl, ← List.map_map]
  exact flat_I _
@[simp] theorem dl_len {f : Nat → Int} {n : Nat} : (dl f n).length = n := by simp [dl]

@[simp] theorem callV_C {p : Pt} : callV (.rt (eC p)) = some (eC p) := callV_rt (flat_C p)
@[simp] theorem callV_P {l : List Pt} : callV (.rt (eP l)) = some (eP l) := callV_rt (flat_P l)
@[simp] theorem callV_b {b : Bool} : callV (.rt (.bool b)) = some (.bool b) := rfl
@[simp] theorem callV_i {i : Int} : callV (.rt (.int i)) = some (.int i) := rfl
@[simp] theorem callV_s {x : Str} : callV (.rt (.str x)) = some (.str x) := rfl
@[simp] theorem callV_n : callV (.rt .none) = some .none := rfl
theorem get_map {α : Type} {f : α → D} {l : List α} {i : Nat} {d : D} (h : (l.map f)[i]? = some d) : ∃ x, l[i]? = some x ∧ d = f x := by
  rw [List.getElem?_map] at h
  cases e : l[i]? with
  | none => rw [e] at h; cases h
  | some x => rw [e] at h; cases h; exact ⟨x, rfl, rfl⟩
theorem get_map' {α : Type} {f : α → D} {l : List α} {i : Nat} {x : α} (h : l[i]? = some x) : (l.map f)[i]? = some (f x) := by rw [List.getElem?_map, h]; rfl
/-! ### comprehensions, short loops, sorted numbers -/
theorem comp_of {α : Type} {g : MG} {mt : MB} {me : M} {s : S} {e : α → D} {p : α → Bool} {f : α → D} : ∀ {xs : List α}, (∀ x ∈ xs, ∃ s1, g (e x) s = some s1 ∧ mt s1 = some (p x) ∧ (p x = true → me s1 = some (f x))) → mComp g mt me s (xs.map e) = some ((xs.filter p).map f)
  | [], _ => rfl
  | x :: xs, h => by
    obtain ⟨s1, h1, h2, h3⟩ := h x (List.mem_cons_self ..)
    have ih := comp_of (xs := xs) fun y hy => h y (List.mem_cons_of_mem _ hy)
    rw [List.map_cons, mComp_cons, h1, Option.bind_some, h2, Option.bind_some, List.filter_cons]
    by_cases hp : p x = true
    · simp [hp, h3 hp, ih]
    · simp [hp, ih]
theorem lc_of {α : Type} {mi : ML} {g : MG} {mt : MB} {me : M} {vs : List Nat} {s : S} {e : α → D} {p : α → Bool} {f : α → D} {xs : List α} (hu : unowned s vs = true) (hmi : mi s = some (xs.map e)) (hl : xs.length ≤ 50000)
    (h : ∀ x ∈ xs, ∃ s1, g (e x) (wipeS s vs) = some s1 ∧ mt s1 = some (p x) ∧ (p x = true → me s1 = some (f x))) : mLc mi g mt me vs s = some ((xs.filter p).map f) := by
  unfold mLc
  rw [if_pos hu, hmi, Option.bind_some, if_pos (by simpa using hl)]
  exact comp_of h
theorem rangeD_map {n : Nat} : rangeD 0 n = (List.range n).map fun i : Nat => .int (i : Int) := by
  unfold rangeD
  simp
def Out.loop (o : Out) (k : MS) : Out := match o with
  | .nx s => k s
  | .ct s => k s
  | .bk s => .nx s
  | .rt d => .rt d
  | .rtl ds => .rtl ds
  | .ex c fs => .ex c fs
  | .no => .no
@[simp] theorem loop_nx {s : S} {b : MS} : Out.loop (.nx s) b = b s := rfl
@[simp] theorem loop_ct {s : S} {b : MS} : Out.loop (.ct s) b = b s := rfl
@[simp] theorem loop_bk {s : S} {b : MS} : Out.loop (.bk s) b = .nx s := rfl
@[simp] theorem loop_rt {d : D} {b : MS} : Out.loop (.rt d) b = .rt d := rfl
@[simp] theorem loop_rtl {d : List D} {b : MS} : Out.loop (.rtl d) b = .rtl d := rfl
@[simp] theorem loop_no {b : MS} : Out.loop .no b = .no := rfl
theorem e_forS {mi : ML} {g : MG} {body : MS} {s : S} : mForS mi g body s = (mi s).elim .no fun ds => mFor g body ds s := by unfold mForS; cases mi s <;> rfl
theorem e_for0 {g : MG} {body : MS} {s : S} : mFor g body [] s = .nx s := rfl
theorem e_for1 {g : MG} {body : MS} {d : D} {ds : List D} {s : S} : mFor g body (d :: ds) s = (g d s).elim .no fun s1 => Out.loop (body s1) (mFor g body ds) := by
  rw [mFor_cons]
  cases g d s with
  | none => rfl
  | some s1 =>
    show _ = Out.loop (body s1) (mFor g body ds)
    generalize hb : body s1 = o
    simp only [hb]
    cases o <;> rfl
theorem dataLe_ints (p q : Int) : W.dataLe false id (.int p) (.int q) = decide (p ≤ q) :=
  congrFun (congrFun (W.dataLe_int (fun x : Int => x)) p) q
theorem sorted_ints {xs : List Int} (h : xs.length ≤ 100000) : fSorted (xs.map .int) = some ((xs.mergeSort fun a b => decide (a ≤ b)).map .int) := by
  have a1 : alikeAllB (xs.map .int) = true := by
    unfold alikeAllB
    simp [List.all_map, W.alike]
  have a2 : sortB (xs.map .int) = true := by
    unfold sortB
    simp [List.all_map]
  have a3 : PyData.depthAll (xs.map .int) ≤ 60 := by
    have : ∀ ys : List Int, PyData.depthAll (ys.map .int) = 0 := fun ys => by
      induction ys with
      | nil => rfl
      | cons y ys ih => simp [PyData.depthAll, PyData.depth, ih]
    rw [this]; decide
  unfold fSorted sortD
  rw [if_pos ⟨a1, a2, a3, by simpa using h⟩]
  congr 1
  exact (List.map_mergeSort fun a _ b _ => (dataLe_ints a b).symm).symm
theorem sorted_two (p q : Int) : fSorted [.int p, .int q] = some (if p ≤ q then [.int p, .int q] else [.int q, .int p]) := by
  have := sorted_ints (xs := [p, q]) (by simp)
  simp only [List.map_cons, List.map_nil] at this
  rw [this]
  by_cases h : p ≤ q <;> simp [List.mergeSort, List.MergeSort.Internal.splitInTwo, h, List.merge]
theorem ix_unique {l : List Pt} {x : Pt} {i j : Nat} (hi : l[i]? = some x) (hi2 : ∀ k, k < i → l[k]? ≠ some x) (hj : l[j]? = some x) (hj2 : ∀ k, k < j → l[k]? ≠ some x) : i = j := by
  rcases Nat.lt_trichotomy i j with h | h | h
  · exact (hj2 i h hi).elim
  · exact h
  · exact (hi2 j h hj).elim
/-- the first place of a corner -/
def ix (x : Pt) (l : List Pt) : Nat := l.idxOf x
theorem idxOf_C {l : List Pt} {x : Pt} (h : x ∈ l) : idxOf (eC x) (l.map eC) = some (ix x l) := by
  unfold ix
  induction l with
  | nil => cases h
  | cons y l ih =>
    rw [List.map_cons, idxOf, eC_eqv, List.idxOf_cons]
    by_cases e : y = x
    · simp [e]
    · have : x ∈ l := by
        rcases List.mem_cons.mp h with h | h
        · exact (e h.symm).elim
        · exact h
      simp [beq_false_of_ne e, e, ih this]
theorem f_indexC {l : List Pt} {x : Pt} (h : x ∈ l) : fIndex (eP l) (eC x) = some (.int (ix x l)) := by
  unfold fIndex eP
  simp only
  rw [if_pos (by have := eCs_depth l; omega), idxOf_C h]
  rfl
theorem filter_head {n : Nat} {p : Nat → Bool} {j : Nat} (hj : j < n) (hp : p j = true) (hm : ∀ i, i < j → p i = false) : ∃ r, (List.range n).filter p = j :: r := by
  induction n with
  | zero => omega
  | succ n ih =>
    rw [List.range_succ, List.filter_append]
    by_cases h : j < n
    · obtain ⟨r, e⟩ := ih h
      exact ⟨r ++ _, by rw [e]; rfl⟩
    · have : j = n := by omega
      subst this
      refine ⟨[], ?_⟩
      have e : (List.range j).filter p = [] := by
        rw [List.filter_eq_nil_iff]
        intro i hi
        rw [hm i (List.mem_range.mp hi)]; decide
      rw [e]; simp [hp]
/-! ### sets of corners -/
def kC (p : Pt) : List Int := [p.1, p.2]
@[simp] theorem keyC {p : Pt} : keyD (eC p) = some (kC p) := rfl
theorem keysC : ∀ l : List Pt, keysD (l.map eC) = some (l.map kC)
  | [] => rfl
  | p :: l => by simp [keysD, keysC l]
theorem fKeysP {l : List Pt} (h : l.length < 64) : fKeys (eP l) = some (l.map kC) := by
  unfold fKeys
  simp [h, keysC]
@[simp] theorem kC_mem {p : Pt} {l : List Pt} : (kC p ∈ l.map kC) ↔ p ∈ l := by
  constructor
  · intro h
    obtain ⟨q, hq, e⟩ := List.mem_map.mp h
    obtain ⟨a, b⟩ := p
    obtain ⟨c, d⟩ := q
    simp [kC] at e
    obtain ⟨rfl, rfl⟩ := e
    exact hq
  · exact fun h => List.mem_map.mpr ⟨p, h, rfl⟩
end DD
namespace Toy
open PySem L2 DD
def topS (i : Nat) : Stmt := PySem.Challenge.pw_cornerplane_k01_normal_path_or_first_fau.main.body.getD i (.Pass ⟨0, 0, 0, 0⟩)
/-- the built-in names that the text uses -/
structure Top (mg : Str → Option Value) : Prop where
  n_ValueError : mg "ValueError" = none
  n_bool : mg "bool" = none
  n_enumerate : mg "enumerate" = none
  n_int : mg "int" = none
  n_isinstance : mg "isinstance" = none
  n_len : mg "len" = none
  n_list : mg "list" = none
  n_range : mg "range" = none
  n_tuple : mg "tuple" = none
def look_DIRECTIONS : List Int → Option Str := fun k => if [1, 0] = k then some "E" else if [(-1), 0] = k then some "W" else if [0, 1] = k then some "N" else if [0, (-1)] = k then some "S" else none
abbrev s_on_board : Stmt := topS 6
theorem sc_on_board : FnScope ["board", "corner", "width", "height", "x", "y"] ["board", "corner"] (defScope s_on_board) := ⟨rfl, rfl, rfl, by decide +kernel, rfl, by decide +kernel, by decide +kernel⟩
def b_on_board : MS :=
  (mSeq (mAsgG (gSeq 2 (gsCons (gN 2) (gsCons (gN 3) gsNil))) (mVar 0))
  (mSeq (mAsgG (gSeq 2 (gsCons (gN 4) (gsCons (gN 5) gsNil))) (mVar 1))
  (mRet (mAndV (mChain fLe fLe (mC (.int 0)) (mVarB 4) (mVarB 2)) (mChain fLe fLe (mC (.int 0)) (mVarB 5) (mVarB 3))))))
def m_on_board : MF := mFn 6 b_on_board
theorem ok_on_board {P : Program} {w : World} {K : Fg} {mg : Str → Option Value} {base : Heap} {f : Addr} {fd : FuncData} (F : L2.Fun K "on_board" "on_board" s_on_board f fd) (T : Top mg)  : FnOk P w K mg base CX0 1 f fd ["board", "corner"] (spD K C0 2 m_on_board) :=
  fn_data (k := 0) F sc_on_board rfl (by decide) fun cdv A outer s H E hr =>
    (ss_cons (s_asgG (ps_asg (x_pv (pv 0)) (g_seq rfl rfl (gs_cons (g_name (pg_name (i := 2) sc_on_board.nd rfl (.inl rfl))) (gs_cons (g_name (pg_name (i := 3) sc_on_board.nd rfl (.inl rfl))) gs_nil)))))
    (ss_cons (s_asgG (ps_asg (x_pv (pv 1)) (g_seq rfl rfl (gs_cons (g_name (pg_name (i := 4) sc_on_board.nd rfl (.inl rfl))) (gs_cons (g_name (pg_name (i := 5) sc_on_board.nd rfl (.inl rfl))) gs_nil)))))
    (ss_one (s_ret (x_and (x_chain op_le op_le os_le os_le (x_b x_int) (b_pv (pv 4)) (b_pv (pv 2))) (x_one (x_chain op_le op_le os_le os_le (x_b x_int) (b_pv (pv 5)) (b_pv (pv 3)))))))))
abbrev s_direction : Stmt := topS 7
theorem sc_direction : FnScope ["a", "b"] ["a", "b"] (defScope s_direction) := ⟨rfl, rfl, rfl, by decide +kernel, rfl, by decide +kernel, by decide +kernel⟩
def b_direction : MS :=
  (mRet (m1 (fGetK look_DIRECTIONS) (mTup (mCons (m2 fSub (m2 fIx (mVarB 1) (mC (.int 0))) (m2 fIx (mVarB 0) (mC (.int 0)))) (mCons (m2 fSub (m2 fIx (mVarB 1) (mC (.int 1))) (m2 fIx (mVarB 0) (mC (.int 1)))) mNil)))))
def m_direction : MF := mFn 2 b_direction
theorem ok_direction {P : Program} {w : World} {K : Fg} {mg : Str → Option Value} {base : Heap} {f : Addr} {fd : FuncData} {x_DIRECTIONS : List (List Int × Addr × Str × Tok)} {d_DIRECTIONS : Addr} (F : L2.Fun K "direction" "direction" s_direction f fd) (T : Top mg) (D_DIRECTIONS : DTab P w K d_DIRECTIONS x_DIRECTIONS) (g_DIRECTIONS : mg "DIRECTIONS" = some (.ref d_DIRECTIONS)) (q_DIRECTIONS : tabLook x_DIRECTIONS = look_DIRECTIONS) : FnOk P w K mg base CX0 1 f fd ["a", "b"] (spD K C0 2 m_direction) :=
  fn_data (k := 0) F sc_direction rfl (by decide) fun cdv A outer s H E hr =>
    (ss_one (s_ret (x_getKq q_DIRECTIONS D_DIRECTIONS rfl hr rfl g_DIRECTIONS (x_b (x_tup (a_cons (x_sub (x_b (x_ix rfl (b_pv (pv 1)) (x_b x_int))) (x_b (x_ix rfl (b_pv (pv 0)) (x_b x_int)))) (a_cons (x_sub (x_b (x_ix rfl (b_pv (pv 1)) (x_b x_int))) (x_b (x_ix rfl (b_pv (pv 0)) (x_b x_int)))) a_nil)))) ⟨rfl, rfl, rfl, rfl⟩)))
abbrev s__fit_together : Stmt := topS 10
theorem sc__fit_together : FnScope ["directions", "turns_east_west", "turns_north_south"] ["directions"] (defScope s__fit_together) := ⟨rfl, rfl, rfl, by decide +kernel, rfl, by decide +kernel, by decide +kernel⟩
def b__fit_together : MS :=
  (mSeq (mIfS (mT (m2 (fIn false) (mC .none) (mVarB 0)))
  (mRet (mC (.bool false)))
  mNext)
  (mSeq (mAsg 1 (mAndV (m2 (fIn false) (mC (.str "E")) (mVarB 0)) (m2 (fIn false) (mC (.str "W")) (mVarB 0))))
  (mSeq (mAsg 2 (mAndV (m2 (fIn false) (mC (.str "N")) (mVarB 0)) (m2 (fIn false) (mC (.str "S")) (mVarB 0))))
  (mRet (mAndV (mNotV (mVar 1)) (mNotV (mVar 2)))))))
def m__fit_together : MF := mFn 3 b__fit_together
theorem ok__fit_together {P : Program} {w : World} {K : Fg} {mg : Str → Option Value} {base : Heap} {f : Addr} {fd : FuncData} (F : L2.Fun K "_fit_together" "_fit_together" s__fit_together f fd) (T : Top mg)  : FnOk P w K mg base CX0 1 f fd ["directions"] (spD K C0 1 m__fit_together) :=
  fn_data (k := 0) F sc__fit_together rfl (by decide) fun cdv A outer s H E hr =>
    (ss_cons (s_if (t_in rfl hr (x_b x_non) (b_pv (pv 0)))
    (ss_one (s_ret x_bl))
    ss_nil)
    (ss_cons (s_asg (ps_set (i := 1) sc__fit_together.nd rfl (.inl rfl) (x_and (x_in rfl hr (x_b (x_str (by decide +kernel))) (b_pv (pv 0))) (x_one (x_in rfl hr (x_b (x_str (by decide +kernel))) (b_pv (pv 0)))))))
    (ss_cons (s_asg (ps_set (i := 2) sc__fit_together.nd rfl (.inl rfl) (x_and (x_in rfl hr (x_b (x_str (by decide +kernel))) (b_pv (pv 0))) (x_one (x_in rfl hr (x_b (x_str (by decide +kernel))) (b_pv (pv 0)))))))
    (ss_one (s_ret (x_and (x_not (x_pv (pv 1))) (x_one (x_not (x_pv (pv 2))))))))))
abbrev s_from_lesser_end : Stmt := topS 11
theorem sc_from_lesser_end : FnScope ["row"] ["row"] (defScope s_from_lesser_end) := ⟨rfl, rfl, rfl, by decide +kernel, rfl, by decide +kernel, by decide +kernel⟩
def b_from_lesser_end : MS :=
  (mSeq (mIfS (mT (m2 fLt (m2 fIx (mVarB 0) (m1 fNeg (mC (.int 1)))) (m2 fIx (mVarB 0) (mC (.int 0)))))
  (mRet (mRevT (mVarB 0)))
  mNext)
  (mRetO 0))
def m_from_lesser_end : MF := mFn 1 b_from_lesser_end
theorem ok_from_lesser_end {P : Program} {w : World} {K : Fg} {mg : Str → Option Value} {base : Heap} {f : Addr} {fd : FuncData} (F : L2.Fun K "from_lesser_end" "from_lesser_end" s_from_lesser_end f fd) (T : Top mg)  : FnOk P w K mg base CX0 1 f fd ["row"] (spD K C0 1 m_from_lesser_end) :=
  fn_data (k := 0) F sc_from_lesser_end rfl (by decide) fun cdv A outer s H E hr =>
    (ss_cons (s_if (t_lt rfl hr (x_b (x_ix rfl (b_pv (pv 0)) (x_b (x_neg (x_b x_int))))) (x_b (x_ix rfl (b_pv (pv 0)) (x_b x_int))))
    (ss_one (s_ret (x_revT rfl (b_pv (pv 0)))))
    ss_nil)
    (ss_one (s_retO (pv 0))))
abbrev s__law_cell : Stmt := topS 13
theorem sc__law_cell : FnScope ["_law_script", "_law_k"] ["_law_script", "_law_k"] (defScope s__law_cell) := ⟨rfl, rfl, rfl, by decide +kernel, rfl, by decide +kernel, by decide +kernel⟩
def b__law_cell : MS :=
  (mSeq (mIfS (mT (m2 fLt (mVarB 1) (mBi fLen (mCons (mVarB 0) mNil))))
  (mRet (mBi fInt1 (mCons (m2 fIx (mVarB 0) (mVarB 1)) mNil)))
  mNext)
  (mRet (mC (.int 0))))
def m__law_cell : MF := mFn 2 b__law_cell
theorem ok__law_cell {P : Program} {w : World} {K : Fg} {mg : Str → Option Value} {base : Heap} {f : Addr} {fd : FuncData} (F : L2.Fun K "_law_cell" "_law_cell" s__law_cell f fd) (T : Top mg)  : FnOk P w K mg base CX0 1 f fd ["_law_script", "_law_k"] (spD K C0 2 m__law_cell) :=
  fn_data (k := 0) F sc__law_cell rfl (by decide) fun cdv A outer s H E hr =>
    (ss_cons (s_if (t_lt rfl hr (b_pv (pv 1)) (x_b (x_len rfl rfl T.n_len (ab_cons (b_pv (pv 0)) ab_nil))))
    (ss_one (s_ret (x_int1 rfl T.n_int (ab_cons (x_b (x_ix rfl (b_pv (pv 0)) (b_pv (pv 1)))) ab_nil))))
    ss_nil)
    (ss_one (s_ret x_int)))
abbrev s__law_draws : Stmt := topS 14
theorem sc__law_draws : FnScope ["_law_cell_here", "_law_sizes", "_law_drawn", "_law_rest", "_law_digits", "_law_k", "_law_size", "_law_mixed"] ["_law_cell_here", "_law_sizes"] (defScope s__law_draws) := ⟨rfl, rfl, rfl, by decide +kernel, rfl, by decide +kernel, by decide +kernel⟩
def b__law_draws : MS :=
  (mSeq (mAsgL 2 (mLst mNil))
  (mSeq (mAsg 3 (mBi fInt1 (mCons (mVarB 0) mNil)))
  (mSeq (mAsg 4 (m2 fGe (mVarB 3) (m2 fPow (mC (.int 10)) (mC (.int 18)))))
  (mSeq (mForS (iRange1 (mCons (mBi fLen (mCons (mVarB 1) mNil)) mNil)) (gN 5)
  (mSeq (mAsg 6 (m2 fIx (mVarB 1) (mVarB 5)))
  (mIfS (mAnd (mT (mVar 4)) (mT (m2 fGt (mVarB 3) (mC (.int 0)))))
  (mSeq (mApp 2 (m2 fMod (mBi fInt1 (mCons (mVarB 3) mNil)) (mVarB 6)))
  (mAsg 3 (m2 fDiv (mVarB 3) (mVarB 6))))
  (mSeq (mAsg 7 (m2 fMod (mBi fInt1 (mCons (m2 fAdd (m2 fAdd (mVarB 0) (m2 fMul (mC (.int 7919)) (mVarB 5))) (mC (.int 13))) mNil)) (mC (.int 2147483647))))
  (mSeq (mAsg 7 (m2 fMod (mBi fInt1 (mCons (m2 fMul (mVarB 7) (m2 fAdd (mVarB 7) (mC (.int 48271)))) mNil)) (mC (.int 2147483629))))
  (mSeq (mAsg 7 (m2 fMod (mBi fInt1 (mCons (m2 fAdd (m2 fMul (mVarB 7) (m2 fAdd (mVarB 7) (mC (.int 69621)))) (m2 fMul (mC (.int 31)) (mVarB 5))) mNil)) (mC (.int 2147483647))))
  (mApp 2 (m2 fMod (mBi fInt1 (mCons (m2 fDiv (mVarB 7) (mC (.int 9))) mNil)) (mVarB 6)))))))))
  (mRetO 2)))))
def m__law_draws : MF := mFn 8 b__law_draws
theorem ok__law_draws {P : Program} {w : World} {K : Fg} {mg : Str → Option Value} {base : Heap} {f : Addr} {fd : FuncData} (F : L2.Fun K "_law_draws" "_law_draws" s__law_draws f fd) (T : Top mg)  : FnOk P w K mg base CX0 1 f fd ["_law_cell_here", "_law_sizes"] (spD K C0 2 m__law_draws) :=
  fn_data (k := 0) F sc__law_draws rfl (by decide) fun cdv A outer s H E hr =>
    (ss_cons (s_asgL (ps_set (i := 2) sc__law_draws.nd rfl (.inl rfl) (l_lst a_nil)))
    (ss_cons (s_asg (ps_set (i := 3) sc__law_draws.nd rfl (.inl rfl) (x_int1 rfl T.n_int (ab_cons (b_pv (pv 0)) ab_nil))))
    (ss_cons (s_asg (ps_set (i := 4) sc__law_draws.nd rfl (.inl rfl) (x_ge (b_pv (pv 3)) (x_b (x_pow (x_b x_int) (x_b x_int))))))
    (ss_cons (s_for PassesOwn.never rfl (i_range1 rfl T.n_range (ab_cons (x_b (x_len rfl rfl T.n_len (ab_cons (b_pv (pv 1)) ab_nil))) ab_nil)) (g_name (pg_name (i := 5) sc__law_draws.nd rfl (.inl rfl)))
    (ss_cons (s_asg (ps_set (i := 6) sc__law_draws.nd rfl (.inl rfl) (x_ix rfl (b_pv (pv 1)) (b_pv (pv 5)))))
    (ss_one (s_if (t_w (w_and (t_val (x_pv (pv 4))) (w_and1 (t_gt (b_pv (pv 3)) (x_b x_int)))))
    (ss_cons (s_appN rfl (pv 2) (x_mod (x_b (x_int1 rfl T.n_int (ab_cons (b_pv (pv 3)) ab_nil))) (b_pv (pv 6))))
    (ss_one (s_asg (ps_set (i := 3) sc__law_draws.nd rfl (.inl rfl) (x_fdiv (b_pv (pv 3)) (b_pv (pv 6)))))))
    (ss_cons (s_asg (ps_set (i := 7) sc__law_draws.nd rfl (.inl rfl) (x_mod (x_b (x_int1 rfl T.n_int (ab_cons (x_b (x_add (x_b (x_add (b_pv (pv 0)) (x_b (x_mul (x_b x_int) (b_pv (pv 5)))))) (x_b x_int))) ab_nil))) (x_b x_int))))
    (ss_cons (s_asg (ps_set (i := 7) sc__law_draws.nd rfl (.inl rfl) (x_mod (x_b (x_int1 rfl T.n_int (ab_cons (x_b (x_mul (b_pv (pv 7)) (x_b (x_add (b_pv (pv 7)) (x_b x_int))))) ab_nil))) (x_b x_int))))
    (ss_cons (s_asg (ps_set (i := 7) sc__law_draws.nd rfl (.inl rfl) (x_mod (x_b (x_int1 rfl T.n_int (ab_cons (x_b (x_add (x_b (x_mul (b_pv (pv 7)) (x_b (x_add (b_pv (pv 7)) (x_b x_int))))) (x_b (x_mul (x_b x_int) (b_pv (pv 5)))))) ab_nil))) (x_b x_int))))
    (ss_one (s_appN rfl (pv 2) (x_mod (x_b (x_int1 rfl T.n_int (ab_cons (x_b (x_fdiv (b_pv (pv 7)) (x_b x_int))) ab_nil))) (b_pv (pv 6))))))))))))
    (ss_one (s_retO (pv 2)))))))
abbrev s__law_on_board : Stmt := topS 16
theorem sc__law_on_board : FnScope ["_law_board_here", "_law_corner"] ["_law_board_here", "_law_corner"] (defScope s__law_on_board) := ⟨rfl, rfl, rfl, by decide +kernel, rfl, by decide +kernel, by decide +kernel⟩
def b__law_on_board : MS :=
  (mRet (mAndV (mChain fLe fLe (mC (.int 0)) (m2 fIx (mVarB 1) (mC (.int 0))) (m2 fIx (mVarB 0) (mC (.int 0)))) (mChain fLe fLe (mC (.int 0)) (m2 fIx (mVarB 1) (mC (.int 1))) (m2 fIx (mVarB 0) (mC (.int 1))))))
def m__law_on_board : MF := mFn 2 b__law_on_board
theorem ok__law_on_board {P : Program} {w : World} {K : Fg} {mg : Str → Option Value} {base : Heap} {f : Addr} {fd : FuncData} (F : L2.Fun K "_law_on_board" "_law_on_board" s__law_on_board f fd) (T : Top mg)  : FnOk P w K mg base CX0 1 f fd ["_law_board_here", "_law_corner"] (spD K C0 2 m__law_on_board) :=
  fn_data (k := 0) F sc__law_on_board rfl (by decide) fun cdv A outer s H E hr =>
    (ss_one (s_ret (x_and (x_chain op_le op_le os_le os_le (x_b x_int) (x_b (x_ix rfl (b_pv (pv 1)) (x_b x_int))) (x_b (x_ix rfl (b_pv (pv 0)) (x_b x_int)))) (x_one (x_chain op_le op_le os_le os_le (x_b x_int) (x_b (x_ix rfl (b_pv (pv 1)) (x_b x_int))) (x_b (x_ix rfl (b_pv (pv 0)) (x_b x_int))))))))
abbrev s__law_is_integer : Stmt := topS 17
theorem sc__law_is_integer : FnScope ["_law_told_here"] ["_law_told_here"] (defScope s__law_is_integer) := ⟨rfl, rfl, rfl, by decide +kernel, rfl, by decide +kernel, by decide +kernel⟩
def b__law_is_integer : MS :=
  (mRet (mAndV (mIsi isInt (mVarB 0)) (mNotV (mIsi isBool (mVarB 0)))))
def m__law_is_integer : MF := mFn 1 b__law_is_integer
theorem ok__law_is_integer {P : Program} {w : World} {K : Fg} {mg : Str → Option Value} {base : Heap} {f : Addr} {fd : FuncData} (F : L2.Fun K "_law_is_integer" "_law_is_integer" s__law_is_integer f fd) (T : Top mg)  : FnOk P w K mg base CX0 1 f fd ["_law_told_here"] (spD K C0 1 m__law_is_integer) :=
  fn_data (k := 0) F sc__law_is_integer rfl (by decide) fun cdv A outer s H E hr =>
    (ss_one (s_ret (x_and (x_isi tab_int rfl rfl T.n_isinstance (b_pv (pv 0)) (ty_int rfl T.n_int)) (x_one (x_not (x_isi tab_bool rfl rfl T.n_isinstance (b_pv (pv 0)) (ty_bool rfl T.n_bool)))))))
def bh__law_is_integer : MS :=
  (mRet (mAndV (mIsi isInt (mVarB 0)) (mNotV (mIsi isBool (mVarB 0)))))
def mh__law_is_integer : MF := mFn 1 bh__law_is_integer
theorem okh__law_is_integer {P : Program} {w : World} {K : Fg} {mg : Str → Option Value} {base : Heap} {f : Addr} {fd : FuncData} (F : L2.Fun K "_law_is_integer" "_law_is_integer" s__law_is_integer f fd) (T : Top mg)  : L2H.FnH P w K mg base CX0 1 f fd ["_law_told_here"] (spD K C0 1 mh__law_is_integer) :=
  fnH_data (k := 0) F sc__law_is_integer rfl (by decide) fun cdv A outer s H E q hot hr =>
    (ss_one (s_ret (x_and (x_isi tab_int rfl rfl T.n_isinstance (b_pv (pv 0)) (ty_int rfl T.n_int)) (x_one (x_not (x_isi tab_bool rfl rfl T.n_isinstance (b_pv (pv 0)) (ty_bool rfl T.n_bool)))))))
abbrev s__law_stepped : Stmt := topS 20
theorem sc__law_stepped : FnScope ["_law_corner", "_law_letter"] ["_law_corner", "_law_letter"] (defScope s__law_stepped) := ⟨rfl, rfl, rfl, by decide +kernel, rfl, by decide +kernel, by decide +kernel⟩
def b__law_stepped : MS :=
  (mSeq (mIfS (mT (m2 fEq (mVarB 1) (mC (.str "E"))))
  (mRet (mTup (mCons (m2 fAdd (m2 fIx (mVarB 0) (mC (.int 0))) (mC (.int 1))) (mCons (m2 fIx (mVarB 0) (mC (.int 1))) mNil))))
  mNext)
  (mSeq (mIfS (mT (m2 fEq (mVarB 1) (mC (.str "W"))))
  (mRet (mTup (mCons (m2 fSub (m2 fIx (mVarB 0) (mC (.int 0))) (mC (.int 1))) (mCons (m2 fIx (mVarB 0) (mC (.int 1))) mNil))))
  mNext)
  (mSeq (mIfS (mT (m2 fEq (mVarB 1) (mC (.str "N"))))
  (mRet (mTup (mCons (m2 fIx (mVarB 0) (mC (.int 0))) (mCons (m2 fAdd (m2 fIx (mVarB 0) (mC (.int 1))) (mC (.int 1))) mNil))))
  mNext)
  (mRet (mTup (mCons (m2 fIx (mVarB 0) (mC (.int 0))) (mCons (m2 fSub (m2 fIx (mVarB 0) (mC (.int 1))) (mC (.int 1))) mNil)))))))
def m__law_stepped : MF := mFn 2 b__law_stepped
theorem ok__law_stepped {P : Program} {w : World} {K : Fg} {mg : Str → Option Value} {base : Heap} {f : Addr} {fd : FuncData} (F : L2.Fun K "_law_stepped" "_law_stepped" s__law_stepped f fd) (T : Top mg)  : FnOk P w K mg base CX0 1 f fd ["_law_corner", "_law_letter"] (spD K C0 2 m__law_stepped) :=
  fn_data (k := 0) F sc__law_stepped rfl (by decide) fun cdv A outer s H E hr =>
    (ss_cons (s_if (t_eq rfl hr (b_pv (pv 1)) (x_b (x_str (by decide +kernel))))
    (ss_one (s_ret (x_tup (a_cons (x_add (x_b (x_ix rfl (b_pv (pv 0)) (x_b x_int))) (x_b x_int)) (a_cons (x_ix rfl (b_pv (pv 0)) (x_b x_int)) a_nil)))))
    ss_nil)
    (ss_cons (s_if (t_eq rfl hr (b_pv (pv 1)) (x_b (x_str (by decide +kernel))))
    (ss_one (s_ret (x_tup (a_cons (x_sub (x_b (x_ix rfl (b_pv (pv 0)) (x_b x_int))) (x_b x_int)) (a_cons (x_ix rfl (b_pv (pv 0)) (x_b x_int)) a_nil)))))
    ss_nil)
    (ss_cons (s_if (t_eq rfl hr (b_pv (pv 1)) (x_b (x_str (by decide +kernel))))
    (ss_one (s_ret (x_tup (a_cons (x_ix rfl (b_pv (pv 0)) (x_b x_int)) (a_cons (x_add (x_b (x_ix rfl (b_pv (pv 0)) (x_b x_int))) (x_b x_int)) a_nil)))))
    ss_nil)
    (ss_one (s_ret (x_tup (a_cons (x_ix rfl (b_pv (pv 0)) (x_b x_int)) (a_cons (x_sub (x_b (x_ix rfl (b_pv (pv 0)) (x_b x_int))) (x_b x_int)) a_nil))))))))
abbrev s__law_within : Stmt := topS 25
theorem sc__law_within : FnScope ["_law_used", "_law_letters", "_law_letter"] ["_law_used", "_law_letters"] (defScope s__law_within) := ⟨rfl, rfl, rfl, by decide +kernel, rfl, by decide +kernel, by decide +kernel⟩
def b__law_within : MS :=
  (mRet (m2 fEq (mBi fLen (mCons (mL (mLc (iStrD (mVarB 0)) (gN 2) (mT (m2 (fInS true) (mVarB 2) (mVarB 1))) (mVar 2) [2])) mNil)) (mC (.int 0))))
def m__law_within : MF := mFn 3 b__law_within
theorem ok__law_within {P : Program} {w : World} {K : Fg} {mg : Str → Option Value} {base : Heap} {f : Addr} {fd : FuncData} (F : L2.Fun K "_law_within" "_law_within" s__law_within f fd) (T : Top mg)  : FnOk P w K mg base CX0 1 f fd ["_law_used", "_law_letters"] (spD K C0 2 m__law_within) :=
  fn_data (k := 0) F sc__law_within rfl (by decide) fun cdv A outer s H E hr =>
    (ss_one (s_ret (x_eq rfl hr (x_b (x_len rfl rfl T.n_len (ab_cons (l_b (l_lc (own := [("_law_letter", 2)]) rfl sc__law_within.nd (i_str rfl (b_pv (pv 0))) (blkOk_by (N := ["_law_used", "_law_letters", "_law_letter"]) (sc := defScope s__law_within) (by decide +kernel)) (fun _ _ _ _ _ => (g_name (pg_name (i := 2) sc__law_within.nd rfl (.inl rfl)))) (fun _ _ _ _ _ => (ts_one (t_notInS (b_pv (pv 2)) (b_pv (pv 1))))) (fun _ _ _ _ _ => (x_pv (pv 2))) (by decide))) ab_nil))) (x_b x_int))))
abbrev s__law_board : Stmt := topS 15
theorem sc__law_board : FnScope ["_law_cell_here", "_law_most", "_law_d"] ["_law_cell_here", "_law_most"] (defScope s__law_board) := ⟨rfl, rfl, rfl, by decide +kernel, rfl, by decide +kernel, by decide +kernel⟩
def b__law_board : MS :=
  (mSeq (mAsgL 2 (mCallBL 2 m__law_draws (mCons (mVarB 0) (mCons (mL (mLst (mCons (mC (.int 8)) (mCons (mVar 1) (mCons (mVar 1) (mCons (m2 fAdd (mVarB 1) (mC (.int 1))) (mCons (m2 fAdd (mVarB 1) (mC (.int 1))) mNil))))))) mNil))))
  (mSeq (mIfS (mT (m2 fEq (m2 fIx (mVarB 2) (mC (.int 0))) (mC (.int 0))))
  (mRet (mTup (mCons (m2 fIx (mVarB 2) (mC (.int 3))) (mCons (m2 fIx (mVarB 2) (mC (.int 4))) mNil))))
  mNext)
  (mRet (mTup (mCons (m2 fAdd (m2 fIx (mVarB 2) (mC (.int 1))) (mC (.int 1))) (mCons (m2 fAdd (m2 fIx (mVarB 2) (mC (.int 2))) (mC (.int 1))) mNil))))))
def m__law_board : MF := mFn 3 b__law_board
theorem ok__law_board {P : Program} {w : World} {K : Fg} {mg : Str → Option Value} {base : Heap} {f : Addr} {fd : FuncData} (F : L2.Fun K "_law_board" "_law_board" s__law_board f fd) (T : Top mg) (c__law_draws : Cal P w K mg base CX0 C0 1 "_law_draws" 2 m__law_draws) : FnOk P w K mg base CX0 2 f fd ["_law_cell_here", "_law_most"] (spD K C0 2 m__law_board) :=
  fn_data (k := 1) F sc__law_board rfl (by decide) fun cdv A outer s H E hr =>
    (ss_cons (s_asgL (ps_set (i := 2) sc__law_board.nd rfl (.inl rfl) (l_callB c__law_draws hr (by decide) rfl rfl (ab_cons (b_pv (pv 0)) (ab_cons (l_b (l_lst (a_cons x_int (a_cons (x_pv (pv 1)) (a_cons (x_pv (pv 1)) (a_cons (x_add (b_pv (pv 1)) (x_b x_int)) (a_cons (x_add (b_pv (pv 1)) (x_b x_int)) a_nil))))))) ab_nil)))))
    (ss_cons (s_if (t_eq rfl hr (x_b (x_ix rfl (b_pv (pv 2)) (x_b x_int))) (x_b x_int))
    (ss_one (s_ret (x_tup (a_cons (x_ix rfl (b_pv (pv 2)) (x_b x_int)) (a_cons (x_ix rfl (b_pv (pv 2)) (x_b x_int)) a_nil)))))
    ss_nil)
    (ss_one (s_ret (x_tup (a_cons (x_add (x_b (x_ix rfl (b_pv (pv 2)) (x_b x_int))) (x_b x_int)) (a_cons (x_add (x_b (x_ix rfl (b_pv (pv 2)) (x_b x_int))) (x_b x_int)) a_nil)))))))
abbrev s__law_is_corner : Stmt := topS 18
theorem sc__law_is_corner : FnScope ["_law_told_here"] ["_law_told_here"] (defScope s__law_is_corner) := ⟨rfl, rfl, rfl, by decide +kernel, rfl, by decide +kernel, by decide +kernel⟩
def b__law_is_corner : MS :=
  (mRet (mAndV (mIsi isTuple (mVarB 0)) (mAndV (m2 fEq (mBi fLen (mCons (mVarB 0) mNil)) (mC (.int 2))) (mAndV (mCallB 1 m__law_is_integer (mCons (m2 fIx (mVarB 0) (mC (.int 0))) mNil)) (mCallB 1 m__law_is_integer (mCons (m2 fIx (mVarB 0) (mC (.int 1))) mNil))))))
def m__law_is_corner : MF := mFn 1 b__law_is_corner
theorem ok__law_is_corner {P : Program} {w : World} {K : Fg} {mg : Str → Option Value} {base : Heap} {f : Addr} {fd : FuncData} (F : L2.Fun K "_law_is_corner" "_law_is_corner" s__law_is_corner f fd) (T : Top mg) (c__law_is_integer : Cal P w K mg base CX0 C0 1 "_law_is_integer" 1 m__law_is_integer) : FnOk P w K mg base CX0 2 f fd ["_law_told_here"] (spD K C0 1 m__law_is_corner) :=
  fn_data (k := 1) F sc__law_is_corner rfl (by decide) fun cdv A outer s H E hr =>
    (ss_one (s_ret (x_and (x_isi tab_tuple rfl rfl T.n_isinstance (b_pv (pv 0)) (ty_tuple rfl T.n_tuple)) (x_and (x_eq rfl hr (x_b (x_len rfl rfl T.n_len (ab_cons (b_pv (pv 0)) ab_nil))) (x_b x_int)) (x_and (x_callB c__law_is_integer hr (by decide) rfl rfl (ab_cons (x_b (x_ix rfl (b_pv (pv 0)) (x_b x_int))) ab_nil)) (x_one (x_callB c__law_is_integer hr (by decide) rfl rfl (ab_cons (x_b (x_ix rfl (b_pv (pv 0)) (x_b x_int))) ab_nil))))))))
def bh__law_is_corner : MS :=
  (mRet (mAndV (mIsi isTuple (mVarB 0)) (mAndV (m2 fEqI (mBi fLen (mCons (mVarB 0) mNil)) (mC (.int 2))) (mAndV (mCallB 1 mh__law_is_integer (mCons (m2 fIx (mVarB 0) (mC (.int 0))) mNil)) (mCallB 1 mh__law_is_integer (mCons (m2 fIx (mVarB 0) (mC (.int 1))) mNil))))))
def mh__law_is_corner : MF := mFn 1 bh__law_is_corner
theorem okh__law_is_corner {P : Program} {w : World} {K : Fg} {mg : Str → Option Value} {base : Heap} {f : Addr} {fd : FuncData} (F : L2.Fun K "_law_is_corner" "_law_is_corner" s__law_is_corner f fd) (T : Top mg) (ch__law_is_integer : CalH P w K mg base C0 1 "_law_is_integer" 1 mh__law_is_integer) : L2H.FnH P w K mg base CX0 2 f fd ["_law_told_here"] (spD K C0 1 mh__law_is_corner) :=
  fnH_data (k := 1) F sc__law_is_corner rfl (by decide) fun cdv A outer s H E q hot hr =>
    (ss_one (s_ret (x_and (x_isi tab_tuple rfl rfl T.n_isinstance (b_pv (pv 0)) (ty_tuple rfl T.n_tuple)) (x_and (x_eqI (x_b (x_len rfl rfl T.n_len (ab_cons (b_pv (pv 0)) ab_nil))) (x_b x_int)) (x_and (x_callH ch__law_is_integer hr (by decide) (hotF hot) rfl rfl (ab_cons (x_b (x_ix rfl (b_pv (pv 0)) (x_b x_int))) ab_nil)) (x_one (x_callH ch__law_is_integer hr (by decide) (hotF hot) rfl rfl (ab_cons (x_b (x_ix rfl (b_pv (pv 0)) (x_b x_int))) ab_nil))))))))
abbrev s__law_walked : Stmt := topS 21
theorem sc__law_walked : FnScope ["_law_board_here", "_law_start_cell", "_law_step_cell", "_law_d", "_law_letters", "_law_row", "_law_picks", "_law_k", "_law_corner"] ["_law_board_here", "_law_start_cell", "_law_step_cell"] (defScope s__law_walked) := ⟨rfl, rfl, rfl, by decide +kernel, rfl, by decide +kernel, by decide +kernel⟩
def b__law_walked : MS :=
  (mSeq (mAsgL 3 (mCallBL 2 m__law_draws (mCons (mVarB 1) (mCons (mL (mLst (mCons (m2 fAdd (m2 fIx (mVarB 0) (mC (.int 0))) (mC (.int 1))) (mCons (m2 fAdd (m2 fIx (mVarB 0) (mC (.int 1))) (mC (.int 1))) (mCons (mC (.int 4)) (mCons (mC (.int 17)) (mCons (mC (.int 2)) mNil))))))) mNil))))
  (mSeq (mAsg 4 (m2 fIx (mL (mLst (mCons (mC (.str "EN")) (mCons (mC (.str "WS")) (mCons (mC (.str "ES")) (mCons (mC (.str "WN")) mNil)))))) (m2 fIx (mVarB 3) (mC (.int 2)))))
  (mSeq (mAsgL 5 (mLst (mCons (mTup (mCons (m2 fIx (mVarB 3) (mC (.int 0))) (mCons (m2 fIx (mVarB 3) (mC (.int 1))) mNil))) mNil)))
  (mSeq (mIfS (mT (m2 fEq (m2 fIx (mVarB 3) (mC (.int 4))) (mC (.int 1))))
  (mAsgL 5 (mLst (mCons (mTup (mCons (m2 fIx (mL (mLst (mCons (mC (.int 0)) (mCons (m2 fIx (mVarB 0) (mC (.int 0))) (mCons (mC (.int 0)) (mCons (m2 fIx (mVarB 0) (mC (.int 0))) mNil)))))) (m2 fIx (mVarB 3) (mC (.int 2)))) (mCons (m2 fIx (mL (mLst (mCons (mC (.int 0)) (mCons (m2 fIx (mVarB 0) (mC (.int 1))) (mCons (m2 fIx (mVarB 0) (mC (.int 1))) (mCons (mC (.int 0)) mNil)))))) (m2 fIx (mVarB 3) (mC (.int 2)))) mNil))) mNil)))
  mNext)
  (mSeq (mAsgL 6 (mCallBL 2 m__law_draws (mCons (mVarB 2) (mCons (mL (mRep (mLst (mCons (mC (.int 2)) mNil)) (mC (.int 16)))) mNil))))
  (mSeq (mForS (iRange1 (mCons (m2 fIx (mVarB 3) (mC (.int 3))) mNil)) (gN 7)
  (mSeq (mAsg 8 (mCallB 2 m__law_stepped (mCons (m2 fIx (mVarB 5) (m1 fNeg (mC (.int 1)))) (mCons (m2 fIx (mVarB 4) (m2 fIx (mVarB 6) (mVarB 7))) mNil))))
  (mIfS (mT (mCallB 2 m__law_on_board (mCons (mVarB 0) (mCons (mVarB 8) mNil))))
  (mApp 5 (mVar 8))
  mNext)))
  (mRetO 5)))))))
def m__law_walked : MF := mFn 9 b__law_walked
theorem ok__law_walked {P : Program} {w : World} {K : Fg} {mg : Str → Option Value} {base : Heap} {f : Addr} {fd : FuncData} (F : L2.Fun K "_law_walked" "_law_walked" s__law_walked f fd) (T : Top mg) (c__law_draws : Cal P w K mg base CX0 C0 1 "_law_draws" 2 m__law_draws) (c__law_on_board : Cal P w K mg base CX0 C0 1 "_law_on_board" 2 m__law_on_board) (c__law_stepped : Cal P w K mg base CX0 C0 1 "_law_stepped" 2 m__law_stepped) : FnOk P w K mg base CX0 2 f fd ["_law_board_here", "_law_start_cell", "_law_step_cell"] (spD K C0 3 m__law_walked) :=
  fn_data (k := 1) F sc__law_walked rfl (by decide) fun cdv A outer s H E hr =>
    (ss_cons (s_asgL (ps_set (i := 3) sc__law_walked.nd rfl (.inl rfl) (l_callB c__law_draws hr (by decide) rfl rfl (ab_cons (b_pv (pv 1)) (ab_cons (l_b (l_lst (a_cons (x_add (x_b (x_ix rfl (b_pv (pv 0)) (x_b x_int))) (x_b x_int)) (a_cons (x_add (x_b (x_ix rfl (b_pv (pv 0)) (x_b x_int))) (x_b x_int)) (a_cons x_int (a_cons x_int (a_cons x_int a_nil))))))) ab_nil)))))
    (ss_cons (s_asg (ps_set (i := 4) sc__law_walked.nd rfl (.inl rfl) (x_ix rfl (l_b (l_lst (a_cons (x_str (by decide +kernel)) (a_cons (x_str (by decide +kernel)) (a_cons (x_str (by decide +kernel)) (a_cons (x_str (by decide +kernel)) a_nil)))))) (x_b (x_ix rfl (b_pv (pv 3)) (x_b x_int))))))
    (ss_cons (s_asgL (ps_set (i := 5) sc__law_walked.nd rfl (.inl rfl) (l_lst (a_cons (x_tup (a_cons (x_ix rfl (b_pv (pv 3)) (x_b x_int)) (a_cons (x_ix rfl (b_pv (pv 3)) (x_b x_int)) a_nil))) a_nil))))
    (ss_cons (s_if (t_eq rfl hr (x_b (x_ix rfl (b_pv (pv 3)) (x_b x_int))) (x_b x_int))
    (ss_one (s_asgL (ps_set (i := 5) sc__law_walked.nd rfl (.inl rfl) (l_lst (a_cons (x_tup (a_cons (x_ix rfl (l_b (l_lst (a_cons x_int (a_cons (x_ix rfl (b_pv (pv 0)) (x_b x_int)) (a_cons x_int (a_cons (x_ix rfl (b_pv (pv 0)) (x_b x_int)) a_nil)))))) (x_b (x_ix rfl (b_pv (pv 3)) (x_b x_int)))) (a_cons (x_ix rfl (l_b (l_lst (a_cons x_int (a_cons (x_ix rfl (b_pv (pv 0)) (x_b x_int)) (a_cons (x_ix rfl (b_pv (pv 0)) (x_b x_int)) (a_cons x_int a_nil)))))) (x_b (x_ix rfl (b_pv (pv 3)) (x_b x_int)))) a_nil))) a_nil)))))
    ss_nil)
    (ss_cons (s_asgL (ps_set (i := 6) sc__law_walked.nd rfl (.inl rfl) (l_callB c__law_draws hr (by decide) rfl rfl (ab_cons (b_pv (pv 2)) (ab_cons (l_b (l_rep (l_lst (a_cons x_int a_nil)) (x_b x_int))) ab_nil)))))
    (ss_cons (s_for PassesOwn.never rfl (i_range1 rfl T.n_range (ab_cons (x_b (x_ix rfl (b_pv (pv 3)) (x_b x_int))) ab_nil)) (g_name (pg_name (i := 7) sc__law_walked.nd rfl (.inl rfl)))
    (ss_cons (s_asg (ps_set (i := 8) sc__law_walked.nd rfl (.inl rfl) (x_callB c__law_stepped hr (by decide) rfl rfl (ab_cons (x_b (x_ix rfl (b_pv (pv 5)) (x_b (x_neg (x_b x_int))))) (ab_cons (x_b (x_ix rfl (b_pv (pv 4)) (x_b (x_ix rfl (b_pv (pv 6)) (b_pv (pv 7)))))) ab_nil)))))
    (ss_one (s_if (t_val (x_callB c__law_on_board hr (by decide) rfl rfl (ab_cons (b_pv (pv 0)) (ab_cons (b_pv (pv 8)) ab_nil))))
    (ss_one (s_appN rfl (pv 5) (x_pv (pv 8))))
    ss_nil))))
    (ss_one (s_retO (pv 5)))))))))
abbrev s__law_spoilt : Stmt := topS 22
theorem sc__law_spoilt : FnScope ["_law_board_here", "_law_row", "_law_cell_here", "_law_d", "_law_k", "_law_corner", "_law_letter", "_law_longer", "_law_m", "_law_beside", "_law_spot"] ["_law_board_here", "_law_row", "_law_cell_here"] (defScope s__law_spoilt) := ⟨rfl, rfl, rfl, by decide +kernel, rfl, by decide +kernel, by decide +kernel⟩
def b__law_spoilt : MS :=
  (mSeq (mAsgL 3 (mCallBL 2 m__law_draws (mCons (mVarB 2) (mCons (mL (mLst (mCons (mC (.int 12)) (mCons (mC (.int 40)) (mCons (mC (.int 5)) (mCons (mC (.int 5)) (mCons (m2 fAdd (m2 fIx (mVarB 0) (mC (.int 0))) (mC (.int 7))) (mCons (m2 fAdd (m2 fIx (mVarB 0) (mC (.int 1))) (mC (.int 7))) (mCons (mC (.int 4)) (mCons (mC (.int 4)) mNil)))))))))) mNil))))
  (mSeq (mIfS (mOr (mT (m2 fEq (mBi fLen (mCons (mVarB 1) mNil)) (mC (.int 0)))) (mT (m2 fEq (m2 fIx (mVarB 3) (mC (.int 0))) (mC (.int 0)))))
  (mRetL (mLst mNil))
  mNext)
  (mSeq (mAsg 4 (m2 fMod (mBi fInt1 (mCons (m2 fIx (mVarB 3) (mC (.int 1))) mNil)) (mBi fLen (mCons (mVarB 1) mNil))))
  (mSeq (mAsg 5 (m2 fIx (mVarB 1) (mVarB 4)))
  (mSeq (mAsg 6 (m2 fIx (mC (.str "EWNS")) (m2 fIx (mVarB 3) (mC (.int 6)))))
  (mSeq (mIfS (mT (m2 fLe (m2 fIx (mVarB 3) (mC (.int 0))) (mC (.int 2))))
  (mRetL (mCat (mL (mCutL (mVarB 1) oNone (oSome (mVarB 4)))) (mL (mLc (iSeq (mL (mCutL (mVarB 1) (oSome (mVarB 4)) oNone))) (gN 10) mYes (mTup (mCons (m2 fSub (m2 fAdd (m2 fIx (mVarB 10) (mC (.int 0))) (m2 fIx (mVarB 3) (mC (.int 2)))) (mC (.int 2))) (mCons (m2 fSub (m2 fAdd (m2 fIx (mVarB 10) (mC (.int 1))) (m2 fIx (mVarB 3) (mC (.int 3)))) (mC (.int 2))) mNil))) [10]))))
  mNext)
  (mSeq (mIfS (mT (m2 fEq (m2 fIx (mVarB 3) (mC (.int 0))) (mC (.int 3))))
  (mRetL (mCat (mL (mCat (mL (mCutL (mVarB 1) oNone (oSome (mVarB 4)))) (mL (mLst (mCons (mTup (mCons (m2 fSub (m2 fIx (mVarB 3) (mC (.int 4))) (mC (.int 3))) (mCons (m2 fSub (m2 fIx (mVarB 3) (mC (.int 5))) (mC (.int 3))) mNil))) mNil))))) (mL (mCutL (mVarB 1) (oSome (m2 fAdd (mVarB 4) (mC (.int 1)))) oNone))))
  mNext)
  (mSeq (mIfS (mT (m2 fEq (m2 fIx (mVarB 3) (mC (.int 0))) (mC (.int 4))))
  (mRetL (mCat (mL (mCat (mL (mCutL (mVarB 1) oNone (oSome (mVarB 4)))) (mL (mLst (mCons (mTup (mCons (m2 fSub (m2 fIx (mVarB 3) (mC (.int 4))) (mC (.int 3))) (mCons (m2 fSub (m2 fIx (mVarB 3) (mC (.int 5))) (mC (.int 3))) mNil))) mNil))))) (mL (mCutL (mVarB 1) (oSome (mVarB 4)) oNone))))
  mNext)
  (mSeq (mIfS (mT (m2 fLe (m2 fIx (mVarB 3) (mC (.int 0))) (mC (.int 6))))
  (mSeq (mAsgL 7 (iSeq (mVarB 1)))
  (mSeq (mForS (iRange1 (mCons (m2 fAdd (m2 fIx (mVarB 3) (mC (.int 7))) (mC (.int 1))) mNil)) (gN 8)
  (mApp 7 (mCallB 2 m__law_stepped (mCons (m2 fIx (mVarB 7) (m1 fNeg (mC (.int 1)))) (mCons (mVarB 6) mNil)))))
  (mRetO 7)))
  mNext)
  (mSeq (mIfS (mT (m2 fEq (m2 fIx (mVarB 3) (mC (.int 0))) (mC (.int 7))))
  (mRetL (mCat (mVarB 1) (mL (mRevL (mL (mCutL (mVarB 1) oNone (oSome (m1 fNeg (mC (.int 1))))))))))
  mNext)
  (mSeq (mIfS (mT (m2 fEq (m2 fIx (mVarB 3) (mC (.int 0))) (mC (.int 8))))
  (mRetL (mCat (mL (mCutL (mVarB 1) oNone (oSome (mVarB 4)))) (mL (mCutL (mVarB 1) (oSome (m2 fAdd (mVarB 4) (mC (.int 1)))) oNone))))
  mNext)
  (mSeq (mIfS (mT (m2 fEq (m2 fIx (mVarB 3) (mC (.int 0))) (mC (.int 9))))
  (mRetL (mCat (mL (mCat (mL (mCutL (mVarB 1) oNone (oSome (mVarB 4)))) (mL (mLst (mCons (mVar 5) mNil))))) (mL (mCutL (mVarB 1) (oSome (mVarB 4)) oNone))))
  mNext)
  (mSeq (mIfS (mT (m2 fEq (m2 fIx (mVarB 3) (mC (.int 0))) (mC (.int 10))))
  (mRetL (mCat (mL (mCat (mL (mCutL (mVarB 1) oNone (oSome (mVarB 4)))) (mL (mLst (mCons (mVar 5) (mCons (mCallB 2 m__law_stepped (mCons (mVarB 5) (mCons (mVarB 6) mNil))) mNil)))))) (mL (mCutL (mVarB 1) (oSome (mVarB 4)) oNone))))
  mNext)
  (mSeq (mAsgL 9 (mLst (mCons (mTup (mCons (m2 fAdd (m2 fAdd (m2 fIx (mVarB 0) (mC (.int 0))) (mC (.int 1))) (m2 fIx (mVarB 3) (mC (.int 7)))) (mCons (m2 fIx (mVarB 5) (mC (.int 1))) mNil))) (mCons (mTup (mCons (m2 fSub (m1 fNeg (mC (.int 1))) (m2 fIx (mVarB 3) (mC (.int 7)))) (mCons (m2 fIx (mVarB 5) (mC (.int 1))) mNil))) mNil))))
  (mSeq (mAsgL 9 (mCat (mVarB 9) (mL (mLst (mCons (mTup (mCons (m2 fIx (mVarB 5) (mC (.int 0))) (mCons (m2 fAdd (m2 fAdd (m2 fIx (mVarB 0) (mC (.int 1))) (mC (.int 1))) (m2 fIx (mVarB 3) (mC (.int 7)))) mNil))) (mCons (mTup (mCons (m2 fIx (mVarB 5) (mC (.int 0))) (mCons (m2 fSub (m1 fNeg (mC (.int 1))) (m2 fIx (mVarB 3) (mC (.int 7)))) mNil))) mNil))))))
  (mRetL (mCat (mL (mCat (mL (mCutL (mVarB 1) oNone (oSome (mVarB 4)))) (mL (mLst (mCons (m2 fIx (mVarB 9) (m2 fIx (mVarB 3) (mC (.int 6)))) mNil))))) (mL (mCutL (mVarB 1) (oSome (m2 fAdd (mVarB 4) (mC (.int 1)))) oNone)))))))))))))))))))
def m__law_spoilt : MF := mFn 11 b__law_spoilt
theorem ok__law_spoilt {P : Program} {w : World} {K : Fg} {mg : Str → Option Value} {base : Heap} {f : Addr} {fd : FuncData} (F : L2.Fun K "_law_spoilt" "_law_spoilt" s__law_spoilt f fd) (T : Top mg) (c__law_draws : Cal P w K mg base CX0 C0 1 "_law_draws" 2 m__law_draws) (c__law_stepped : Cal P w K mg base CX0 C0 1 "_law_stepped" 2 m__law_stepped) : FnOk P w K mg base CX0 2 f fd ["_law_board_here", "_law_row", "_law_cell_here"] (spD K C0 3 m__law_spoilt) :=
  fn_data (k := 1) F sc__law_spoilt rfl (by decide) fun cdv A outer s H E hr =>
    (ss_cons (s_asgL (ps_set (i := 3) sc__law_spoilt.nd rfl (.inr rfl) (l_callB c__law_draws hr (by decide) rfl rfl (ab_cons (b_pv (pv 2)) (ab_cons (l_b (l_lst (a_cons x_int (a_cons x_int (a_cons x_int (a_cons x_int (a_cons (x_add (x_b (x_ix rfl (b_pv (pv 0)) (x_b x_int))) (x_b x_int)) (a_cons (x_add (x_b (x_ix rfl (b_pv (pv 0)) (x_b x_int))) (x_b x_int)) (a_cons x_int (a_cons x_int a_nil)))))))))) ab_nil)))))
    (ss_cons (s_if (t_w (w_or (t_eq rfl hr (x_b (x_len rfl rfl T.n_len (ab_cons (b_pv (pv 1)) ab_nil))) (x_b x_int)) (w_or1 (t_eq rfl hr (x_b (x_ix rfl (b_pv (pv 3)) (x_b x_int))) (x_b x_int)))))
    (ss_one (s_retL (l_lst a_nil)))
    ss_nil)
    (ss_cons (s_asg (ps_set (i := 4) sc__law_spoilt.nd rfl (.inl rfl) (x_mod (x_b (x_int1 rfl T.n_int (ab_cons (x_b (x_ix rfl (b_pv (pv 3)) (x_b x_int))) ab_nil))) (x_b (x_len rfl rfl T.n_len (ab_cons (b_pv (pv 1)) ab_nil))))))
    (ss_cons (s_asg (ps_set (i := 5) sc__law_spoilt.nd rfl (.inl rfl) (x_ix rfl (b_pv (pv 1)) (b_pv (pv 4)))))
    (ss_cons (s_asg (ps_set (i := 6) sc__law_spoilt.nd rfl (.inl rfl) (x_ix rfl (x_b (x_str (by decide +kernel))) (x_b (x_ix rfl (b_pv (pv 3)) (x_b x_int))))))
    (ss_cons (s_if (t_le (x_b (x_ix rfl (b_pv (pv 3)) (x_b x_int))) (x_b x_int))
    (ss_one (s_retL (l_cat rfl (l_b (l_cut rfl (b_pv (pv 1)) o_none (o_some (b_pv (pv 4))))) (l_b (l_lc (own := [("_law_spot", 10)]) rfl sc__law_spoilt.nd (i_seq rfl (l_x (l_cut rfl (b_pv (pv 1)) (o_some (b_pv (pv 4))) o_none))) (blkOk_by (N := ["_law_board_here", "_law_row", "_law_cell_here", "_law_d", "_law_k", "_law_corner", "_law_letter", "_law_longer", "_law_m", "_law_beside", "_law_spot"]) (sc := defScope s__law_spoilt) (by decide +kernel)) (fun _ _ _ _ _ => (g_name (pg_name (i := 10) sc__law_spoilt.nd rfl (.inl rfl)))) (fun _ _ _ _ _ => ts_nil) (fun _ _ _ _ _ => (x_tup (a_cons (x_sub (x_b (x_add (x_b (x_ix rfl (b_pv (pv 10)) (x_b x_int))) (x_b (x_ix rfl (b_pv (pv 3)) (x_b x_int))))) (x_b x_int)) (a_cons (x_sub (x_b (x_add (x_b (x_ix rfl (b_pv (pv 10)) (x_b x_int))) (x_b (x_ix rfl (b_pv (pv 3)) (x_b x_int))))) (x_b x_int)) a_nil)))) (by decide))))))
    ss_nil)
    (ss_cons (s_if (t_eq rfl hr (x_b (x_ix rfl (b_pv (pv 3)) (x_b x_int))) (x_b x_int))
    (ss_one (s_retL (l_cat rfl (l_b (l_cat rfl (l_b (l_cut rfl (b_pv (pv 1)) o_none (o_some (b_pv (pv 4))))) (l_b (l_lst (a_cons (x_tup (a_cons (x_sub (x_b (x_ix rfl (b_pv (pv 3)) (x_b x_int))) (x_b x_int)) (a_cons (x_sub (x_b (x_ix rfl (b_pv (pv 3)) (x_b x_int))) (x_b x_int)) a_nil))) a_nil))))) (l_b (l_cut rfl (b_pv (pv 1)) (o_some (x_b (x_add (b_pv (pv 4)) (x_b x_int)))) o_none)))))
    ss_nil)
    (ss_cons (s_if (t_eq rfl hr (x_b (x_ix rfl (b_pv (pv 3)) (x_b x_int))) (x_b x_int))
    (ss_one (s_retL (l_cat rfl (l_b (l_cat rfl (l_b (l_cut rfl (b_pv (pv 1)) o_none (o_some (b_pv (pv 4))))) (l_b (l_lst (a_cons (x_tup (a_cons (x_sub (x_b (x_ix rfl (b_pv (pv 3)) (x_b x_int))) (x_b x_int)) (a_cons (x_sub (x_b (x_ix rfl (b_pv (pv 3)) (x_b x_int))) (x_b x_int)) a_nil))) a_nil))))) (l_b (l_cut rfl (b_pv (pv 1)) (o_some (b_pv (pv 4))) o_none)))))
    ss_nil)
    (ss_cons (s_if (t_le (x_b (x_ix rfl (b_pv (pv 3)) (x_b x_int))) (x_b x_int))
    (ss_cons (s_asgL (ps_set (i := 7) sc__law_spoilt.nd rfl (.inl rfl) (l_listOf rfl rfl T.n_list (b_pv (pv 1)))))
    (ss_cons (s_for PassesOwn.never rfl (i_range1 rfl T.n_range (ab_cons (x_b (x_add (x_b (x_ix rfl (b_pv (pv 3)) (x_b x_int))) (x_b x_int))) ab_nil)) (g_name (pg_name (i := 8) sc__law_spoilt.nd rfl (.inl rfl)))
    (ss_one (s_appN rfl (pv 7) (x_callB c__law_stepped hr (by decide) rfl rfl (ab_cons (x_b (x_ix rfl (b_pv (pv 7)) (x_b (x_neg (x_b x_int))))) (ab_cons (b_pv (pv 6)) ab_nil))))))
    (ss_one (s_retO (pv 7)))))
    ss_nil)
    (ss_cons (s_if (t_eq rfl hr (x_b (x_ix rfl (b_pv (pv 3)) (x_b x_int))) (x_b x_int))
    (ss_one (s_retL (l_cat rfl (b_pv (pv 1)) (l_b (l_rev rfl (l_b (l_cut rfl (b_pv (pv 1)) o_none (o_some (x_b (x_neg (x_b x_int)))))))))))
    ss_nil)
    (ss_cons (s_if (t_eq rfl hr (x_b (x_ix rfl (b_pv (pv 3)) (x_b x_int))) (x_b x_int))
    (ss_one (s_retL (l_cat rfl (l_b (l_cut rfl (b_pv (pv 1)) o_none (o_some (b_pv (pv 4))))) (l_b (l_cut rfl (b_pv (pv 1)) (o_some (x_b (x_add (b_pv (pv 4)) (x_b x_int)))) o_none)))))
    ss_nil)
    (ss_cons (s_if (t_eq rfl hr (x_b (x_ix rfl (b_pv (pv 3)) (x_b x_int))) (x_b x_int))
    (ss_one (s_retL (l_cat rfl (l_b (l_cat rfl (l_b (l_cut rfl (b_pv (pv 1)) o_none (o_some (b_pv (pv 4))))) (l_b (l_lst (a_cons (x_pv (pv 5)) a_nil))))) (l_b (l_cut rfl (b_pv (pv 1)) (o_some (b_pv (pv 4))) o_none)))))
    ss_nil)
    (ss_cons (s_if (t_eq rfl hr (x_b (x_ix rfl (b_pv (pv 3)) (x_b x_int))) (x_b x_int))
    (ss_one (s_retL (l_cat rfl (l_b (l_cat rfl (l_b (l_cut rfl (b_pv (pv 1)) o_none (o_some (b_pv (pv 4))))) (l_b (l_lst (a_cons (x_pv (pv 5)) (a_cons (x_callB c__law_stepped hr (by decide) rfl rfl (ab_cons (b_pv (pv 5)) (ab_cons (b_pv (pv 6)) ab_nil))) a_nil)))))) (l_b (l_cut rfl (b_pv (pv 1)) (o_some (b_pv (pv 4))) o_none)))))
    ss_nil)
    (ss_cons (s_asgL (ps_set (i := 9) sc__law_spoilt.nd rfl (.inl rfl) (l_lst (a_cons (x_tup (a_cons (x_add (x_b (x_add (x_b (x_ix rfl (b_pv (pv 0)) (x_b x_int))) (x_b x_int))) (x_b (x_ix rfl (b_pv (pv 3)) (x_b x_int)))) (a_cons (x_ix rfl (b_pv (pv 5)) (x_b x_int)) a_nil))) (a_cons (x_tup (a_cons (x_sub (x_b (x_neg (x_b x_int))) (x_b (x_ix rfl (b_pv (pv 3)) (x_b x_int)))) (a_cons (x_ix rfl (b_pv (pv 5)) (x_b x_int)) a_nil))) a_nil)))))
    (ss_cons (s_asgL (ps_set (i := 9) sc__law_spoilt.nd rfl (.inl rfl) (l_cat rfl (b_pv (pv 9)) (l_b (l_lst (a_cons (x_tup (a_cons (x_ix rfl (b_pv (pv 5)) (x_b x_int)) (a_cons (x_add (x_b (x_add (x_b (x_ix rfl (b_pv (pv 0)) (x_b x_int))) (x_b x_int))) (x_b (x_ix rfl (b_pv (pv 3)) (x_b x_int)))) a_nil))) (a_cons (x_tup (a_cons (x_ix rfl (b_pv (pv 5)) (x_b x_int)) (a_cons (x_sub (x_b (x_neg (x_b x_int))) (x_b (x_ix rfl (b_pv (pv 3)) (x_b x_int)))) a_nil))) a_nil)))))))
    (ss_one (s_retL (l_cat rfl (l_b (l_cat rfl (l_b (l_cut rfl (b_pv (pv 1)) o_none (o_some (b_pv (pv 4))))) (l_b (l_lst (a_cons (x_ix rfl (b_pv (pv 9)) (x_b (x_ix rfl (b_pv (pv 3)) (x_b x_int)))) a_nil))))) (l_b (l_cut rfl (b_pv (pv 1)) (o_some (x_b (x_add (b_pv (pv 4)) (x_b x_int)))) o_none))))))))))))))))))))
abbrev s__law_any_row : Stmt := topS 23
theorem sc__law_any_row : FnScope ["_law_board_here", "_law_cell_here", "_law_d", "_law_k"] ["_law_board_here", "_law_cell_here"] (defScope s__law_any_row) := ⟨rfl, rfl, rfl, by decide +kernel, rfl, by decide +kernel, by decide +kernel⟩
def b__law_any_row : MS :=
  (mSeq (mAsgL 2 (mCallBL 2 m__law_draws (mCons (mVarB 1) (mCons (mL (mCat (mL (mLst (mCons (mC (.int 18)) mNil))) (mL (mRep (mLst (mCons (m2 fAdd (m2 fIx (mVarB 0) (mC (.int 0))) (mC (.int 7))) (mCons (m2 fAdd (m2 fIx (mVarB 0) (mC (.int 1))) (mC (.int 7))) mNil))) (mC (.int 17)))))) mNil))))
  (mRetL (mLc (iRange1 (mCons (m2 fIx (mVarB 2) (mC (.int 0))) mNil)) (gN 3) mYes (mTup (mCons (m2 fSub (m2 fIx (mVarB 2) (m2 fAdd (m2 fMul (mC (.int 2)) (mVarB 3)) (mC (.int 1)))) (mC (.int 3))) (mCons (m2 fSub (m2 fIx (mVarB 2) (m2 fAdd (m2 fMul (mC (.int 2)) (mVarB 3)) (mC (.int 2)))) (mC (.int 3))) mNil))) [3])))
def m__law_any_row : MF := mFn 4 b__law_any_row
theorem ok__law_any_row {P : Program} {w : World} {K : Fg} {mg : Str → Option Value} {base : Heap} {f : Addr} {fd : FuncData} (F : L2.Fun K "_law_any_row" "_law_any_row" s__law_any_row f fd) (T : Top mg) (c__law_draws : Cal P w K mg base CX0 C0 1 "_law_draws" 2 m__law_draws) : FnOk P w K mg base CX0 2 f fd ["_law_board_here", "_law_cell_here"] (spD K C0 2 m__law_any_row) :=
  fn_data (k := 1) F sc__law_any_row rfl (by decide) fun cdv A outer s H E hr =>
    (ss_cons (s_asgL (ps_set (i := 2) sc__law_any_row.nd rfl (.inr rfl) (l_callB c__law_draws hr (by decide) rfl rfl (ab_cons (b_pv (pv 1)) (ab_cons (l_b (l_cat rfl (l_b (l_lst (a_cons x_int a_nil))) (l_b (l_rep (l_lst (a_cons (x_add (x_b (x_ix rfl (b_pv (pv 0)) (x_b x_int))) (x_b x_int)) (a_cons (x_add (x_b (x_ix rfl (b_pv (pv 0)) (x_b x_int))) (x_b x_int)) a_nil))) (x_b x_int))))) ab_nil)))))
    (ss_one (s_retL (l_lc (own := [("_law_k", 3)]) rfl sc__law_any_row.nd (i_range1 rfl T.n_range (ab_cons (x_b (x_ix rfl (b_pv (pv 2)) (x_b x_int))) ab_nil)) (blkOk_by (N := ["_law_board_here", "_law_cell_here", "_law_d", "_law_k"]) (sc := defScope s__law_any_row) (by decide +kernel)) (fun _ _ _ _ _ => (g_name (pg_name (i := 3) sc__law_any_row.nd rfl (.inl rfl)))) (fun _ _ _ _ _ => ts_nil) (fun _ _ _ _ _ => (x_tup (a_cons (x_sub (x_b (x_ix rfl (b_pv (pv 2)) (x_b (x_add (x_b (x_mul (x_b x_int) (b_pv (pv 3)))) (x_b x_int))))) (x_b x_int)) (a_cons (x_sub (x_b (x_ix rfl (b_pv (pv 2)) (x_b (x_add (x_b (x_mul (x_b x_int) (b_pv (pv 3)))) (x_b x_int))))) (x_b x_int)) a_nil)))) (by decide)))))
abbrev s__law_direction : Stmt := topS 24
theorem sc__law_direction : FnScope ["_law_corner", "_law_after", "_law_letter"] ["_law_corner", "_law_after"] (defScope s__law_direction) := ⟨rfl, rfl, rfl, by decide +kernel, rfl, by decide +kernel, by decide +kernel⟩
def b__law_direction : MS :=
  (mSeq (mForS (iSeq (mL (mLst (mCons (mC (.str "E")) (mCons (mC (.str "W")) (mCons (mC (.str "N")) (mCons (mC (.str "S")) mNil))))))) (gN 2)
  (mIfS (mT (m2 fEq (mCallB 2 m__law_stepped (mCons (mVarB 0) (mCons (mVarB 2) mNil))) (mVarB 1)))
  (mRetO 2)
  mNext))
  (mRet (mC (.str ""))))
def m__law_direction : MF := mFn 3 b__law_direction
theorem ok__law_direction {P : Program} {w : World} {K : Fg} {mg : Str → Option Value} {base : Heap} {f : Addr} {fd : FuncData} (F : L2.Fun K "_law_direction" "_law_direction" s__law_direction f fd) (T : Top mg) (c__law_stepped : Cal P w K mg base CX0 C0 1 "_law_stepped" 2 m__law_stepped) : FnOk P w K mg base CX0 2 f fd ["_law_corner", "_law_after"] (spD K C0 2 m__law_direction) :=
  fn_data (k := 1) F sc__law_direction rfl (by decide) fun cdv A outer s H E hr =>
    (ss_cons (s_for PassesOwn.never rfl (i_seq rfl (l_x (l_lst (a_cons (x_str (by decide +kernel)) (a_cons (x_str (by decide +kernel)) (a_cons (x_str (by decide +kernel)) (a_cons (x_str (by decide +kernel)) a_nil))))))) (g_name (pg_name (i := 2) sc__law_direction.nd rfl (.inl rfl)))
    (ss_one (s_if (t_eq rfl hr (x_b (x_callB c__law_stepped hr (by decide) rfl rfl (ab_cons (b_pv (pv 0)) (ab_cons (b_pv (pv 2)) ab_nil)))) (b_pv (pv 1)))
    (ss_one (s_retO (pv 2)))
    ss_nil)))
    (ss_one (s_ret (x_str (by decide +kernel)))))
abbrev s_normal_path : Stmt := topS 9
theorem sc_normal_path : FnScope ["board", "corners", "directions", "index", "corner"] ["board", "corners"] (defScope s_normal_path) := ⟨rfl, rfl, rfl, by decide +kernel, rfl, by decide +kernel, by decide +kernel⟩
def b_normal_path : MS :=
  (mSeq (mIfS (mT (m2 fEq (mBi fLen (mCons (mVarB 1) mNil)) (mC (.int 0))))
  (mRaise "NotAPath" (mCons (mC (.int 0)) mNil))
  mNext)
  (mSeq (mAsgL 2 (mLst mNil))
  (mSeq (mForS (iEnumD (mCons (mVar 1) mNil)) (gSeq 2 (gsCons (gN 3) (gsCons (gN 4) gsNil)))
  (mSeq (mIfS (mNot (mT (mCallB 2 m_on_board (mCons (mVarB 0) (mCons (mVarB 4) mNil)))))
  (mRaise "OffBoard" (mCons (mVarB 4) mNil))
  mNext)
  (mSeq (mIfS (mT (m2 fGt (mVarB 3) (mC (.int 0))))
  (mApp 2 (mCallB 2 m_direction (mCons (m2 fIx (mVarB 1) (m2 fSub (mVarB 3) (mC (.int 1)))) (mCons (mVarB 4) mNil))))
  mNext)
  (mIfS (mNot (mT (mCallB 1 m__fit_together (mCons (mVarB 2) mNil))))
  (mRaise "NotAPath" (mCons (mVarB 3) mNil))
  mNext))))
  (mRet (mCallB 1 m_from_lesser_end (mCons (mTupOf (mVarB 1)) mNil))))))
def m_normal_path : MF := mFn 5 b_normal_path
theorem ok_normal_path {P : Program} {w : World} {K : Fg} {mg : Str → Option Value} {base : Heap} {f : Addr} {fd : FuncData} {tab : Tab} {C_NotAPath : Addr} {C_OffBoard : Addr} (F : L2.Fun K "normal_path" "normal_path" s_normal_path f fd) (T : Top mg) (e_NotAPath : ExcK P w K mg base 1 "NotAPath" C_NotAPath (["index"] : List Str)) (t_NotAPath : tab "NotAPath" = some (C_NotAPath, (["index"] : List Str))) (e_OffBoard : ExcK P w K mg base 1 "OffBoard" C_OffBoard (["corner"] : List Str)) (t_OffBoard : tab "OffBoard" = some (C_OffBoard, (["corner"] : List Str))) (c_on_board : Cal P w K mg base CX0 C0 1 "on_board" 2 m_on_board) (c_direction : Cal P w K mg base CX0 C0 1 "direction" 2 m_direction) (c__fit_together : Cal P w K mg base CX0 C0 1 "_fit_together" 1 m__fit_together) (c_from_lesser_end : Cal P w K mg base CX0 C0 1 "from_lesser_end" 1 m_from_lesser_end) : FnOk P w K mg base (L2N.CX P w) 3 f fd ["board", "corners"] (spD K (CXC K tab) 2 m_normal_path) :=
  fnX_data (k := 2) F sc_normal_path rfl (by decide) fun cdv A outer s H E hr =>
    (ss_cons (s_if (t_eq rfl hr (x_b (x_len rfl rfl T.n_len (ab_cons (b_pv (pv 1)) ab_nil))) (x_b x_int))
    (ss_one (s_raise e_NotAPath rfl t_NotAPath rfl hr (by decide) (L2N.takes_of rfl rfl rfl rfl) rfl (fun _ _ => len1) (ab_cons (x_b x_int) ab_nil)))
    ss_nil)
    (ss_cons (s_asgL (ps_set (i := 2) sc_normal_path.nd rfl (.inl rfl) (l_lst a_nil)))
    (ss_cons (s_forP PassesOwn.leaving rfl (i_enum rfl rfl T.n_enumerate (a_cons (x_pv (pv 1)) a_nil)) (g_seqP rfl rfl (gs_cons (g_name (pg_name (i := 3) sc_normal_path.nd rfl (.inl rfl))) (gs_cons (g_name (pg_name (i := 4) sc_normal_path.nd rfl (.inl rfl))) gs_nil)))
    (ss_cons (s_if (t_not (t_val (x_callB c_on_board hr (by decide) rfl rfl (ab_cons (b_pv (pv 0)) (ab_cons (b_pv (pv 4)) ab_nil)))))
    (ss_one (s_raise e_OffBoard rfl t_OffBoard rfl hr (by decide) (L2N.takes_of rfl rfl rfl rfl) rfl (fun _ _ => len1) (ab_cons (b_pv (pv 4)) ab_nil)))
    ss_nil)
    (ss_cons (s_if (t_gt (b_pv (pv 3)) (x_b x_int))
    (ss_one (s_appN rfl (pv 2) (x_callB c_direction hr (by decide) rfl rfl (ab_cons (x_b (x_ix rfl (b_pv (pv 1)) (x_b (x_sub (b_pv (pv 3)) (x_b x_int))))) (ab_cons (b_pv (pv 4)) ab_nil)))))
    ss_nil)
    (ss_one (s_if (t_not (t_val (x_callB c__fit_together hr (by decide) rfl rfl (ab_cons (b_pv (pv 2)) ab_nil))))
    (ss_one (s_raise e_NotAPath rfl t_NotAPath rfl hr (by decide) (L2N.takes_of rfl rfl rfl rfl) rfl (fun _ _ => len1) (ab_cons (b_pv (pv 3)) ab_nil)))
    ss_nil)))))
    (ss_one (s_ret (x_callB c_from_lesser_end hr (by decide) rfl rfl (ab_cons (x_b (x_tupOf rfl rfl T.n_tuple (b_pv (pv 1)))) ab_nil)))))))
abbrev s__law_is_path : Stmt := topS 19
theorem sc__law_is_path : FnScope ["_law_told_here", "_law_wanted", "_law_k"] ["_law_told_here", "_law_wanted"] (defScope s__law_is_path) := ⟨rfl, rfl, rfl, by decide +kernel, rfl, by decide +kernel, by decide +kernel⟩
def b__law_is_path : MS :=
  (mSeq (mIfS (mOr (mNot (mT (mIsi isTuple (mVarB 0)))) (mT (m2 fNe (mBi fLen (mCons (mVarB 0) mNil)) (mBi fLen (mCons (mVarB 1) mNil)))))
  (mRet (mC (.bool false)))
  mNext)
  (mSeq (mForS (iRange1 (mCons (mBi fLen (mCons (mVarB 1) mNil)) mNil)) (gN 2)
  (mIfS (mOr (mNot (mT (mCallB 1 m__law_is_corner (mCons (m2 fIx (mVarB 0) (mVarB 2)) mNil)))) (mT (m2 fNe (m2 fIx (mVarB 0) (mVarB 2)) (m2 fIx (mVarB 1) (mVarB 2)))))
  (mRet (mC (.bool false)))
  mNext))
  (mRet (mC (.bool true)))))
def m__law_is_path : MF := mFn 3 b__law_is_path
theorem ok__law_is_path {P : Program} {w : World} {K : Fg} {mg : Str → Option Value} {base : Heap} {f : Addr} {fd : FuncData} (F : L2.Fun K "_law_is_path" "_law_is_path" s__law_is_path f fd) (T : Top mg) (c__law_is_corner : Cal P w K mg base CX0 C0 2 "_law_is_corner" 1 m__law_is_corner) : FnOk P w K mg base CX0 3 f fd ["_law_told_here", "_law_wanted"] (spD K C0 2 m__law_is_path) :=
  fn_data (k := 2) F sc__law_is_path rfl (by decide) fun cdv A outer s H E hr =>
    (ss_cons (s_if (t_w (w_or (t_not (t_val (x_isi tab_tuple rfl rfl T.n_isinstance (b_pv (pv 0)) (ty_tuple rfl T.n_tuple)))) (w_or1 (t_ne rfl hr (x_b (x_len rfl rfl T.n_len (ab_cons (b_pv (pv 0)) ab_nil))) (x_b (x_len rfl rfl T.n_len (ab_cons (b_pv (pv 1)) ab_nil)))))))
    (ss_one (s_ret x_bl))
    ss_nil)
    (ss_cons (s_for PassesOwn.never rfl (i_range1 rfl T.n_range (ab_cons (x_b (x_len rfl rfl T.n_len (ab_cons (b_pv (pv 1)) ab_nil))) ab_nil)) (g_name (pg_name (i := 2) sc__law_is_path.nd rfl (.inl rfl)))
    (ss_one (s_if (t_w (w_or (t_not (t_val (x_callB c__law_is_corner hr (by decide) rfl rfl (ab_cons (x_b (x_ix rfl (b_pv (pv 0)) (b_pv (pv 2)))) ab_nil)))) (w_or1 (t_ne rfl hr (x_b (x_ix rfl (b_pv (pv 0)) (b_pv (pv 2)))) (x_b (x_ix rfl (b_pv (pv 1)) (b_pv (pv 2))))))))
    (ss_one (s_ret x_bl))
    ss_nil)))
    (ss_one (s_ret x_bl))))
abbrev s__law_due : Stmt := topS 26
theorem sc__law_due : FnScope ["_law_board_here", "_law_row", "_law_used", "_law_k", "_law_letter", "_law_fitting", "_law_letters"] ["_law_board_here", "_law_row"] (defScope s__law_due) := ⟨rfl, rfl, rfl, by decide +kernel, rfl, by decide +kernel, by decide +kernel⟩
def b__law_due : MS :=
  (mSeq (mIfS (mT (m2 fEq (mBi fLen (mCons (mVarB 1) mNil)) (mC (.int 0))))
  (mRet (mTup (mCons (mC (.str "fault")) (mCons (mC (.int 0)) mNil))))
  mNext)
  (mSeq (mAsg 2 (mC (.str "")))
  (mSeq (mForS (iRange1 (mCons (mBi fLen (mCons (mVarB 1) mNil)) mNil)) (gN 3)
  (mSeq (mIfS (mNot (mT (mCallB 2 m__law_on_board (mCons (mVarB 0) (mCons (m2 fIx (mVarB 1) (mVarB 3)) mNil)))))
  (mRet (mTup (mCons (mC (.str "off")) (mCons (m2 fIx (mVarB 1) (mVarB 3)) mNil))))
  mNext)
  (mIfS (mT (m2 fGt (mVarB 3) (mC (.int 0))))
  (mSeq (mAsg 4 (mCallB 2 m__law_direction (mCons (m2 fIx (mVarB 1) (m2 fSub (mVarB 3) (mC (.int 1)))) (mCons (m2 fIx (mVarB 1) (mVarB 3)) mNil))))
  (mSeq (mAsg 2 (m2 fAdd (mVarB 2) (mVarB 4)))
  (mSeq (mAsgL 5 (mLc (iSeq (mL (mLst (mCons (mC (.str "EN")) (mCons (mC (.str "WS")) (mCons (mC (.str "ES")) (mCons (mC (.str "WN")) mNil))))))) (gN 6) (mT (mCallB 2 m__law_within (mCons (mVarB 2) (mCons (mVarB 6) mNil)))) (mVar 6) [6]))
  (mIfS (mOr (mT (m2 fEq (mVarB 4) (mC (.str "")))) (mT (m2 fEq (mBi fLen (mCons (mVarB 5) mNil)) (mC (.int 0)))))
  (mRet (mTup (mCons (mC (.str "fault")) (mCons (mVar 3) mNil))))
  mNext))))
  mNext)))
  (mSeq (mIfS (mT (m2 fLt (m2 fIx (mVarB 1) (m1 fNeg (mC (.int 1)))) (m2 fIx (mVarB 1) (mC (.int 0)))))
  (mRet (mTup (mCons (mC (.str "path")) (mCons (mL (mRevL (mVarB 1))) mNil))))
  mNext)
  (mRet (mTup (mCons (mC (.str "path")) (mCons (mVar 1) mNil))))))))
def m__law_due : MF := mFn 7 b__law_due
theorem ok__law_due {P : Program} {w : World} {K : Fg} {mg : Str → Option Value} {base : Heap} {f : Addr} {fd : FuncData} (F : L2.Fun K "_law_due" "_law_due" s__law_due f fd) (T : Top mg) (c__law_on_board : Cal P w K mg base CX0 C0 1 "_law_on_board" 2 m__law_on_board) (c__law_direction : Cal P w K mg base CX0 C0 2 "_law_direction" 2 m__law_direction) (c__law_within : Cal P w K mg base CX0 C0 1 "_law_within" 2 m__law_within) : FnOk P w K mg base CX0 3 f fd ["_law_board_here", "_law_row"] (spD K C0 2 m__law_due) :=
  fn_data (k := 2) F sc__law_due rfl (by decide) fun cdv A outer s H E hr =>
    (ss_cons (s_if (t_eq rfl hr (x_b (x_len rfl rfl T.n_len (ab_cons (b_pv (pv 1)) ab_nil))) (x_b x_int))
    (ss_one (s_ret (x_tup (a_cons (x_str (by decide +kernel)) (a_cons x_int a_nil)))))
    ss_nil)
    (ss_cons (s_asg (ps_set (i := 2) sc__law_due.nd rfl (.inr rfl) (x_str (by decide +kernel))))
    (ss_cons (s_for PassesOwn.never rfl (i_range1 rfl T.n_range (ab_cons (x_b (x_len rfl rfl T.n_len (ab_cons (b_pv (pv 1)) ab_nil))) ab_nil)) (g_name (pg_name (i := 3) sc__law_due.nd rfl (.inl rfl)))
    (ss_cons (s_if (t_not (t_val (x_callB c__law_on_board hr (by decide) rfl rfl (ab_cons (b_pv (pv 0)) (ab_cons (x_b (x_ix rfl (b_pv (pv 1)) (b_pv (pv 3)))) ab_nil)))))
    (ss_one (s_ret (x_tup (a_cons (x_str (by decide +kernel)) (a_cons (x_ix rfl (b_pv (pv 1)) (b_pv (pv 3))) a_nil)))))
    ss_nil)
    (ss_one (s_if (t_gt (b_pv (pv 3)) (x_b x_int))
    (ss_cons (s_asg (ps_set (i := 4) sc__law_due.nd rfl (.inl rfl) (x_callB c__law_direction hr (by decide) rfl rfl (ab_cons (x_b (x_ix rfl (b_pv (pv 1)) (x_b (x_sub (b_pv (pv 3)) (x_b x_int))))) (ab_cons (x_b (x_ix rfl (b_pv (pv 1)) (b_pv (pv 3)))) ab_nil)))))
    (ss_cons (s_asg (ps_set (i := 2) sc__law_due.nd rfl (.inr rfl) (x_add (b_pv (pv 2)) (b_pv (pv 4)))))
    (ss_cons (s_setLc (i := 5) (own := [("_law_letters", 6)]) rfl sc__law_due.nd rfl rfl (sw_true rfl rfl rfl (by decide +kernel)) (i_seq rfl (l_x (l_lst (a_cons (x_str (by decide +kernel)) (a_cons (x_str (by decide +kernel)) (a_cons (x_str (by decide +kernel)) (a_cons (x_str (by decide +kernel)) a_nil))))))) (blkOk_by (N := ["_law_board_here", "_law_row", "_law_used", "_law_k", "_law_letter", "_law_fitting", "_law_letters"]) (sc := defScope s__law_due) (by decide +kernel)) (fun _ _ _ _ _ => (g_name (pg_name (i := 6) sc__law_due.nd rfl (.inl rfl)))) (fun _ _ _ _ _ => (ts_one (t_val (x_callB c__law_within hr (by decide) rfl rfl (ab_cons (b_pv (pv 2)) (ab_cons (b_pv (pv 6)) ab_nil)))))) (fun _ _ _ _ _ => (x_pv (pv 6))) (by decide))
    (ss_one (s_if (t_w (w_or (t_eq rfl hr (b_pv (pv 4)) (x_b (x_str (by decide +kernel)))) (w_or1 (t_eq rfl hr (x_b (x_len rfl rfl T.n_len (ab_cons (b_pv (pv 5)) ab_nil))) (x_b x_int)))))
    (ss_one (s_ret (x_tup (a_cons (x_str (by decide +kernel)) (a_cons (x_pv (pv 3)) a_nil)))))
    ss_nil)))))
    ss_nil))))
    (ss_cons (s_if (t_lt rfl hr (x_b (x_ix rfl (b_pv (pv 1)) (x_b (x_neg (x_b x_int))))) (x_b (x_ix rfl (b_pv (pv 1)) (x_b x_int))))
    (ss_one (s_ret (x_tup (a_cons (x_str (by decide +kernel)) (a_cons (l_x (l_rev rfl (b_pv (pv 1)))) a_nil)))))
    ss_nil)
    (ss_one (s_ret (x_tup (a_cons (x_str (by decide +kernel)) (a_cons (x_pv (pv 1)) a_nil)))))))))
abbrev s__law_told : Stmt := topS 27
theorem sc__law_told : FnScope ["_law_board_here", "_law_passed", "_law_told_here", "e"] ["_law_board_here", "_law_passed"] (defScope s__law_told) := ⟨rfl, rfl, rfl, by decide +kernel, rfl, by decide +kernel, by decide +kernel⟩
noncomputable def b__law_told : MS :=
  (mSeq (mAsg 2 (mC .none))
  (mSeq (mTry2 2 3 2 m_normal_path (mCons (mVarB 0) (mCons (mVarB 1) mNil)) (fun _ => (["corner"] : List Str)) (fun c => decide (c = "OffBoard")) (fun _ a dd => (mSeq (mIfS (mAnd (mT (mIsE a dd 3 true)) (mAnd (mT (mIsE a dd 3 true)) (mNot (mT (mIsE a dd 3 false)))))
  (mIfS (mT (mCallB 1 mh__law_is_corner (mCons (mXf a dd 3 "corner") mNil)))
  (mRet (mTup (mCons (mC (.str "off")) (mCons (mXf a dd 3 "corner") mNil))))
  mNext)
  mNext)
  (mRet (mTup (mCons (mC (.str "odd")) (mCons (mC .none) mNil)))))) (fun _ => (["index"] : List Str)) (fun c => decide (c = "NotAPath")) (fun _ a dd => (mSeq (mIfS (mAnd (mT (mIsE a dd 3 true)) (mAnd (mT (mIsE a dd 3 true)) (mNot (mT (mIsE a dd 3 false)))))
  (mIfS (mT (mCallB 1 mh__law_is_integer (mCons (mXf a dd 3 "index") mNil)))
  (mRet (mTup (mCons (mC (.str "fault")) (mCons (mXf a dd 3 "index") mNil))))
  mNext)
  mNext)
  (mRet (mTup (mCons (mC (.str "odd")) (mCons (mC .none) mNil)))))))
  (mRet (mTup (mCons (mC (.str "path")) (mCons (mVar 2) mNil))))))
noncomputable def m__law_told : MF := mFn 4 b__law_told
theorem ok__law_told {P : Program} {w : World} {K : Fg} {mg : Str → Option Value} {base : Heap} {f : Addr} {fd : FuncData} {tab : Tab} {C_NotAPath : Addr} {C_OffBoard : Addr} {C_PlaneError : Addr} (F : L2.Fun K "_law_told" "_law_told" s__law_told f fd) (T : Top mg) (r_OffBoard : ExcR K C_OffBoard) (tt_OffBoard : tab "OffBoard" = some (C_OffBoard, (["corner"] : List Str))) (ex_OffBoard : PySem.W.exmOne K (.ref C_OffBoard) (.ref C_OffBoard) = some true) (gc_OffBoard : mg "OffBoard" = some (.ref C_OffBoard)) (r_NotAPath : ExcR K C_NotAPath) (tt_NotAPath : tab "NotAPath" = some (C_NotAPath, (["index"] : List Str))) (ex_NotAPath : PySem.W.exmOne K (.ref C_NotAPath) (.ref C_NotAPath) = some true) (gc_NotAPath : mg "NotAPath" = some (.ref C_NotAPath)) (nx_NotAPath_OffBoard : PySem.W.exmOne K (.ref C_NotAPath) (.ref C_OffBoard) = some false) (i_OffBoard_PlaneError : PySem.W.kitOne K (.ref C_OffBoard) (.ref C_PlaneError) = some true) (gc_PlaneError : mg "PlaneError" = some (.ref C_PlaneError)) (i_OffBoard_ValueError : PySem.W.kitOne K (.ref C_OffBoard) (.type "ValueError") = some true) (i_OffBoard_NotAPath : PySem.W.kitOne K (.ref C_OffBoard) (.ref C_NotAPath) = some false) (f_OffBoard_corner : PySem.W.findIn K (.ref C_OffBoard) "corner" = some none) (i_NotAPath_PlaneError : PySem.W.kitOne K (.ref C_NotAPath) (.ref C_PlaneError) = some true) (i_NotAPath_ValueError : PySem.W.kitOne K (.ref C_NotAPath) (.type "ValueError") = some true) (i_NotAPath_OffBoard : PySem.W.kitOne K (.ref C_NotAPath) (.ref C_OffBoard) = some false) (f_NotAPath_index : PySem.W.findIn K (.ref C_NotAPath) "index" = some none) (c_normal_path : Cal P w K mg base (L2N.CX P w) (CXC K tab) 3 "normal_path" 2 m_normal_path) (ch__law_is_integer : CalH P w K mg base C0 1 "_law_is_integer" 1 mh__law_is_integer) (ch__law_is_corner : CalH P w K mg base C0 2 "_law_is_corner" 1 mh__law_is_corner) : FnOk P w K mg base CX0 4 f fd ["_law_board_here", "_law_passed"] (spD K C0 2 m__law_told) :=
  fn_data (k := 3) F sc__law_told rfl (by decide) fun cdv A outer s H E hr =>
    (ss_cons (s_asg (ps_set (i := 2) sc__law_told.nd rfl (.inl rfl) x_non))
    (ss_cons (s_try2 (i := 2) (j := 3) (n := 2) (tab := tab) rfl rfl rfl sc__law_told.nd rfl rfl ⟨rfl, by decide, .inl gc_OffBoard⟩ ⟨rfl, by decide, .inl gc_NotAPath⟩ (fun W pn xe tk => ps_set (i := 2) sc__law_told.nd rfl (.inl rfl) (call_at c_normal_path tk hr (by decide) rfl (ab_cons (b_pv (pv 0)) (ab_cons (b_pv (pv 1)) ab_nil)))) (fun c Ca ns h1 h2 => by cases of_decide_eq_true h2; cases tt_OffBoard.symm.trans h1; exact ⟨ex_OffBoard, rfl⟩) (fun c Ca ns h1 h2 => by cases of_decide_eq_true h2; cases tt_NotAPath.symm.trans h1; exact ⟨nx_NotAPath_OffBoard, ex_NotAPath, rfl⟩) (fun c Ca a dd ns oe pn h1 h2 hz hf => by cases of_decide_eq_true h2; cases tt_OffBoard.symm.trans h1; exact (ss_cons (s_if (t_w (w_and (t_val (x_isE r_OffBoard hz hf rfl rfl T.n_isinstance (pv 3) (pe_glob (v := .ref C_PlaneError) rfl gc_PlaneError rfl) (fun u h => h) i_OffBoard_PlaneError)) (w_and (t_val (x_isE r_OffBoard hz hf rfl rfl T.n_isinstance (pv 3) (pe_bltn (v := .ty "ValueError") rfl T.n_ValueError (by decide +kernel) (show RelV (.ty "ValueError") (.type "ValueError") from rfl)) (fun u h => h) i_OffBoard_ValueError)) (w_and1 (t_not (t_val (x_isE r_OffBoard hz hf rfl rfl T.n_isinstance (pv 3) (pe_glob (v := .ref C_NotAPath) rfl gc_NotAPath rfl) (fun u h => h) i_OffBoard_NotAPath)))))))
    (ss_one (s_if (t_val (x_callH ch__law_is_corner (L2H.roomH_mark hr _) (by decide) (hotS hz hf) rfl rfl (ab_cons (x_b (x_xf r_OffBoard.xf f_OffBoard_corner hz hf rfl (pv 3))) ab_nil)))
    (ss_one (s_ret (x_tup (a_cons (x_str (by decide +kernel)) (a_cons (x_xf r_OffBoard.xf f_OffBoard_corner hz hf rfl (pv 3)) a_nil)))))
    ss_nil))
    ss_nil)
    (ss_one (s_ret (x_tup (a_cons (x_str (by decide +kernel)) (a_cons x_non a_nil))))))) (fun c Ca a dd ns oe pn h1 h2 hz hf => by cases of_decide_eq_true h2; cases tt_NotAPath.symm.trans h1; exact (ss_cons (s_if (t_w (w_and (t_val (x_isE r_NotAPath hz hf rfl rfl T.n_isinstance (pv 3) (pe_glob (v := .ref C_PlaneError) rfl gc_PlaneError rfl) (fun u h => h) i_NotAPath_PlaneError)) (w_and (t_val (x_isE r_NotAPath hz hf rfl rfl T.n_isinstance (pv 3) (pe_bltn (v := .ty "ValueError") rfl T.n_ValueError (by decide +kernel) (show RelV (.ty "ValueError") (.type "ValueError") from rfl)) (fun u h => h) i_NotAPath_ValueError)) (w_and1 (t_not (t_val (x_isE r_NotAPath hz hf rfl rfl T.n_isinstance (pv 3) (pe_glob (v := .ref C_OffBoard) rfl gc_OffBoard rfl) (fun u h => h) i_NotAPath_OffBoard)))))))
    (ss_one (s_if (t_val (x_callH ch__law_is_integer (L2H.roomH_mark hr _) (by decide) (hotS hz hf) rfl rfl (ab_cons (x_b (x_xf r_NotAPath.xf f_NotAPath_index hz hf rfl (pv 3))) ab_nil)))
    (ss_one (s_ret (x_tup (a_cons (x_str (by decide +kernel)) (a_cons (x_xf r_NotAPath.xf f_NotAPath_index hz hf rfl (pv 3)) a_nil)))))
    ss_nil))
    ss_nil)
    (ss_one (s_ret (x_tup (a_cons (x_str (by decide +kernel)) (a_cons x_non a_nil))))))))
    (ss_one (s_ret (x_tup (a_cons (x_str (by decide +kernel)) (a_cons (x_pv (pv 2)) a_nil)))))))
abbrev s__law_same : Stmt := topS 28
theorem sc__law_same : FnScope ["_law_told_here", "_law_due_here"] ["_law_told_here", "_law_due_here"] (defScope s__law_same) := ⟨rfl, rfl, rfl, by decide +kernel, rfl, by decide +kernel, by decide +kernel⟩
def b__law_same : MS :=
  (mSeq (mIfS (mT (m2 fNe (m2 fIx (mVarB 0) (mC (.int 0))) (m2 fIx (mVarB 1) (mC (.int 0)))))
  (mRet (mC (.bool false)))
  mNext)
  (mSeq (mIfS (mT (m2 fEq (m2 fIx (mVarB 1) (mC (.int 0))) (mC (.str "path"))))
  (mRet (mCallB 2 m__law_is_path (mCons (m2 fIx (mVarB 0) (mC (.int 1))) (mCons (m2 fIx (mVarB 1) (mC (.int 1))) mNil))))
  mNext)
  (mRet (m2 fEq (m2 fIx (mVarB 0) (mC (.int 1))) (m2 fIx (mVarB 1) (mC (.int 1)))))))
def m__law_same : MF := mFn 2 b__law_same
theorem ok__law_same {P : Program} {w : World} {K : Fg} {mg : Str → Option Value} {base : Heap} {f : Addr} {fd : FuncData} (F : L2.Fun K "_law_same" "_law_same" s__law_same f fd) (T : Top mg) (c__law_is_path : Cal P w K mg base CX0 C0 3 "_law_is_path" 2 m__law_is_path) : FnOk P w K mg base CX0 4 f fd ["_law_told_here", "_law_due_here"] (spD K C0 2 m__law_same) :=
  fn_data (k := 3) F sc__law_same rfl (by decide) fun cdv A outer s H E hr =>
    (ss_cons (s_if (t_ne rfl hr (x_b (x_ix rfl (b_pv (pv 0)) (x_b x_int))) (x_b (x_ix rfl (b_pv (pv 1)) (x_b x_int))))
    (ss_one (s_ret x_bl))
    ss_nil)
    (ss_cons (s_if (t_eq rfl hr (x_b (x_ix rfl (b_pv (pv 1)) (x_b x_int))) (x_b (x_str (by decide +kernel))))
    (ss_one (s_ret (x_callB c__law_is_path hr (by decide) rfl rfl (ab_cons (x_b (x_ix rfl (b_pv (pv 0)) (x_b x_int))) (ab_cons (x_b (x_ix rfl (b_pv (pv 1)) (x_b x_int))) ab_nil)))))
    ss_nil)
    (ss_one (s_ret (x_eq rfl hr (x_b (x_ix rfl (b_pv (pv 0)) (x_b x_int))) (x_b (x_ix rfl (b_pv (pv 1)) (x_b x_int))))))))
abbrev s__law_answers : Stmt := topS 29
theorem sc__law_answers : FnScope ["_law_board_here", "_law_row", "_law_as_tuple", "_law_due_here", "_law_passed", "_law_told_here"] ["_law_board_here", "_law_row", "_law_as_tuple"] (defScope s__law_answers) := ⟨rfl, rfl, rfl, by decide +kernel, rfl, by decide +kernel, by decide +kernel⟩
noncomputable def b__law_answers : MS :=
  (mSeq (mAsg 3 (mCall 2 m__law_due (mCons (mVar 0) (mCons (mVar 1) mNil))))
  (mSeq (mIfS (mAnd (mT (mVar 2)) (mNot (mT (mCallB 2 m__law_same (mCons (mCallB 2 m__law_told (mCons (mVarB 0) (mCons (mTupOf (mVarB 1)) mNil))) (mCons (mVarB 3) mNil))))))
  (mRet (mC (.bool false)))
  mNext)
  (mSeq (mAsgL 4 (iSeq (mVarB 1)))
  (mSeq (mAsg 5 (mCallB 2 m__law_told (mCons (mVarB 0) (mCons (mVarB 4) mNil))))
  (mSeq (mIfS (mT (m2 fNe (mVarB 4) (mVarB 1)))
  (mRet (mC (.bool false)))
  mNext)
  (mSeq (mApp 4 (mTup (mCons (mC (.int 0)) (mCons (mC (.int 0)) mNil))))
  (mRet (mAndV (mCallB 2 m__law_same (mCons (mVarB 5) (mCons (mVarB 3) mNil))) (mCallB 2 m__law_same (mCons (mCallB 2 m__law_told (mCons (mVarB 0) (mCons (mL (iSeq (mVarB 1))) mNil))) (mCons (mVarB 3) mNil)))))))))))
noncomputable def m__law_answers : MF := mFn 6 b__law_answers
theorem ok__law_answers {P : Program} {w : World} {K : Fg} {mg : Str → Option Value} {base : Heap} {f : Addr} {fd : FuncData} (F : L2.Fun K "_law_answers" "_law_answers" s__law_answers f fd) (T : Top mg) (c__law_due : Cal P w K mg base CX0 C0 3 "_law_due" 2 m__law_due) (c__law_told : Cal P w K mg base CX0 C0 4 "_law_told" 2 m__law_told) (c__law_same : Cal P w K mg base CX0 C0 4 "_law_same" 2 m__law_same) : FnOk P w K mg base CX0 5 f fd ["_law_board_here", "_law_row", "_law_as_tuple"] (spD K C0 3 m__law_answers) :=
  fn_data (k := 4) F sc__law_answers rfl (by decide) fun cdv A outer s H E hr =>
    (ss_cons (s_asg (ps_set (i := 3) sc__law_answers.nd rfl (.inl rfl) (x_callC c__law_due hr (by decide) rfl rfl (a_cons (x_pv (pv 0)) (a_cons (x_pv (pv 1)) a_nil)))))
    (ss_cons (s_if (t_w (w_and (t_val (x_pv (pv 2))) (w_and1 (t_not (t_val (x_callB c__law_same hr (by decide) rfl rfl (ab_cons (x_b (x_callB c__law_told hr (by decide) rfl rfl (ab_cons (b_pv (pv 0)) (ab_cons (x_b (x_tupOf rfl rfl T.n_tuple (b_pv (pv 1)))) ab_nil)))) (ab_cons (b_pv (pv 3)) ab_nil))))))))
    (ss_one (s_ret x_bl))
    ss_nil)
    (ss_cons (s_asgL (ps_set (i := 4) sc__law_answers.nd rfl (.inl rfl) (l_listOf rfl rfl T.n_list (b_pv (pv 1)))))
    (ss_cons (s_asg (ps_set (i := 5) sc__law_answers.nd rfl (.inl rfl) (x_callB c__law_told hr (by decide) rfl rfl (ab_cons (b_pv (pv 0)) (ab_cons (b_pv (pv 4)) ab_nil)))))
    (ss_cons (s_if (t_ne rfl hr (b_pv (pv 4)) (b_pv (pv 1)))
    (ss_one (s_ret x_bl))
    ss_nil)
    (ss_cons (s_appN rfl (pv 4) (x_tup (a_cons x_int (a_cons x_int a_nil))))
    (ss_one (s_ret (x_and (x_callB c__law_same hr (by decide) rfl rfl (ab_cons (b_pv (pv 5)) (ab_cons (b_pv (pv 3)) ab_nil))) (x_one (x_callB c__law_same hr (by decide) rfl rfl (ab_cons (x_b (x_callB c__law_told hr (by decide) rfl rfl (ab_cons (b_pv (pv 0)) (ab_cons (l_b (l_listOf rfl rfl T.n_list (b_pv (pv 1)))) ab_nil)))) (ab_cons (b_pv (pv 3)) ab_nil)))))))))))))
abbrev s_law : Stmt := topS 30
theorem sc_law : FnScope ["_law_script", "_law_board_here", "_law_row", "_law_d", "_law_corners", "_law_x", "_law_y", "_law_corner", "_law_told_here"] ["_law_script"] (defScope s_law) := ⟨rfl, rfl, rfl, by decide +kernel, rfl, by decide +kernel, by decide +kernel⟩
noncomputable def b_law : MS :=
  (mSeq (mAsg 1 (mCallB 2 m__law_board (mCons (mCallB 2 m__law_cell (mCons (mVarB 0) (mCons (mC (.int 0)) mNil))) (mCons (mC (.int 8)) mNil))))
  (mSeq (mAsgL 2 (mCallBL 3 m__law_walked (mCons (mVarB 1) (mCons (mCallB 2 m__law_cell (mCons (mVarB 0) (mCons (mC (.int 1)) mNil))) (mCons (mCallB 2 m__law_cell (mCons (mVarB 0) (mCons (mC (.int 2)) mNil))) mNil)))))
  (mSeq (mAsgL 3 (mCallBL 2 m__law_draws (mCons (mCallB 2 m__law_cell (mCons (mVarB 0) (mCons (mC (.int 3)) mNil))) (mCons (mL (mLst (mCons (mC (.int 2)) (mCons (mC (.int 8)) (mCons (mC (.int 8)) (mCons (mC (.int 2)) mNil)))))) mNil))))
  (mSeq (mIfS (mT (m2 fEq (m2 fIx (mVarB 3) (mC (.int 0))) (mC (.int 1))))
  (mAsgL 2 (mCallBL 3 m__law_spoilt (mCons (mVarB 1) (mCons (mVarB 2) (mCons (mCallB 2 m__law_cell (mCons (mVarB 0) (mCons (mC (.int 4)) mNil))) mNil)))))
  mNext)
  (mSeq (mIfS (mAnd (mT (m2 fEq (m2 fIx (mVarB 3) (mC (.int 0))) (mC (.int 1)))) (mT (m2 fEq (m2 fIx (mVarB 3) (mC (.int 1))) (mC (.int 0)))))
  (mAsgL 2 (mCallBL 3 m__law_spoilt (mCons (mVarB 1) (mCons (mVarB 2) (mCons (mCallB 2 m__law_cell (mCons (mVarB 0) (mCons (mC (.int 5)) mNil))) mNil)))))
  mNext)
  (mSeq (mIfS (mT (m2 fEq (m2 fIx (mVarB 3) (mC (.int 2))) (mC (.int 0))))
  (mAsgL 2 (mCallBL 2 m__law_any_row (mCons (mVarB 1) (mCons (mCallB 2 m__law_cell (mCons (mVarB 0) (mCons (mC (.int 6)) mNil))) mNil))))
  mNext)
  (mSeq (mIfS (mOr (mNot (mT (mCallB 3 m__law_answers (mCons (mVarB 1) (mCons (mVarB 2) (mCons (m2 fEq (m2 fIx (mVarB 3) (mC (.int 3))) (mC (.int 1))) mNil)))))) (mNot (mT (mCallB 3 m__law_answers (mCons (mVarB 1) (mCons (mL (mRevL (mVarB 2))) (mCons (m2 fEq (m2 fIx (mVarB 3) (mC (.int 3))) (mC (.int 1))) mNil)))))))
  (mRet (mC (.bool false)))
  mNext)
  (mSeq (mAsgL 4 (iSeq (mVarB 2)))
  (mSeq (mForS (iSeq (mL (mLst (mCons (m1 fNeg (mC (.int 1))) (mCons (mC (.int 0)) (mCons (m2 fIx (mVarB 1) (mC (.int 0))) (mCons (m2 fAdd (m2 fIx (mVarB 1) (mC (.int 0))) (mC (.int 1))) mNil))))))) (gN 5)
  (mForS (iSeq (mL (mLst (mCons (m1 fNeg (mC (.int 1))) (mCons (mC (.int 0)) (mCons (m2 fIx (mVarB 1) (mC (.int 1))) (mCons (m2 fAdd (m2 fIx (mVarB 1) (mC (.int 1))) (mC (.int 1))) mNil))))))) (gN 6)
  (mApp 4 (mTup (mCons (mVar 5) (mCons (mVar 6) mNil))))))
  (mSeq (mShare 4 (mForS (iSeq (mVar 4)) (gN 7)
  (mSeq (mAsg 8 (mCallB 2 m_on_board (mCons (mVarB 1) (mCons (mVarB 7) mNil))))
  (mIfS (mOr (mNot (mT (mIsi isBool (mVarB 8)))) (mT (m2 fNe (mVarB 8) (mCallB 2 m__law_on_board (mCons (mVarB 1) (mCons (mVarB 7) mNil))))))
  (mRet (mC (.bool false)))
  mNext))))
  (mRet (mC (.bool true)))))))))))))
noncomputable def m_law : MF := mFn 9 b_law
theorem ok_law {P : Program} {w : World} {K : Fg} {mg : Str → Option Value} {base : Heap} {f : Addr} {fd : FuncData} (F : L2.Fun K "law" "law" s_law f fd) (T : Top mg) (c_on_board : Cal P w K mg base CX0 C0 1 "on_board" 2 m_on_board) (c__law_cell : Cal P w K mg base CX0 C0 1 "_law_cell" 2 m__law_cell) (c__law_draws : Cal P w K mg base CX0 C0 1 "_law_draws" 2 m__law_draws) (c__law_board : Cal P w K mg base CX0 C0 2 "_law_board" 2 m__law_board) (c__law_on_board : Cal P w K mg base CX0 C0 1 "_law_on_board" 2 m__law_on_board) (c__law_walked : Cal P w K mg base CX0 C0 2 "_law_walked" 3 m__law_walked) (c__law_spoilt : Cal P w K mg base CX0 C0 2 "_law_spoilt" 3 m__law_spoilt) (c__law_any_row : Cal P w K mg base CX0 C0 2 "_law_any_row" 2 m__law_any_row) (c__law_answers : Cal P w K mg base CX0 C0 5 "_law_answers" 3 m__law_answers) : FnOk P w K mg base CX0 6 f fd ["_law_script"] (spD K C0 1 m_law) :=
  fn_data (k := 5) F sc_law rfl (by decide) fun cdv A outer s H E hr =>
    (ss_cons (s_asg (ps_set (i := 1) sc_law.nd rfl (.inl rfl) (x_callB c__law_board hr (by decide) rfl rfl (ab_cons (x_b (x_callB c__law_cell hr (by decide) rfl rfl (ab_cons (b_pv (pv 0)) (ab_cons (x_b x_int) ab_nil)))) (ab_cons (x_b x_int) ab_nil)))))
    (ss_cons (s_asgL (ps_set (i := 2) sc_law.nd rfl (.inl rfl) (l_callB c__law_walked hr (by decide) rfl rfl (ab_cons (b_pv (pv 1)) (ab_cons (x_b (x_callB c__law_cell hr (by decide) rfl rfl (ab_cons (b_pv (pv 0)) (ab_cons (x_b x_int) ab_nil)))) (ab_cons (x_b (x_callB c__law_cell hr (by decide) rfl rfl (ab_cons (b_pv (pv 0)) (ab_cons (x_b x_int) ab_nil)))) ab_nil))))))
    (ss_cons (s_asgL (ps_set (i := 3) sc_law.nd rfl (.inl rfl) (l_callB c__law_draws hr (by decide) rfl rfl (ab_cons (x_b (x_callB c__law_cell hr (by decide) rfl rfl (ab_cons (b_pv (pv 0)) (ab_cons (x_b x_int) ab_nil)))) (ab_cons (l_b (l_lst (a_cons x_int (a_cons x_int (a_cons x_int (a_cons x_int a_nil)))))) ab_nil)))))
    (ss_cons (s_if (t_eq rfl hr (x_b (x_ix rfl (b_pv (pv 3)) (x_b x_int))) (x_b x_int))
    (ss_one (s_asgL (ps_set (i := 2) sc_law.nd rfl (.inl rfl) (l_callB c__law_spoilt hr (by decide) rfl rfl (ab_cons (b_pv (pv 1)) (ab_cons (b_pv (pv 2)) (ab_cons (x_b (x_callB c__law_cell hr (by decide) rfl rfl (ab_cons (b_pv (pv 0)) (ab_cons (x_b x_int) ab_nil)))) ab_nil)))))))
    ss_nil)
    (ss_cons (s_if (t_w (w_and (t_eq rfl hr (x_b (x_ix rfl (b_pv (pv 3)) (x_b x_int))) (x_b x_int)) (w_and1 (t_eq rfl hr (x_b (x_ix rfl (b_pv (pv 3)) (x_b x_int))) (x_b x_int)))))
    (ss_one (s_asgL (ps_set (i := 2) sc_law.nd rfl (.inl rfl) (l_callB c__law_spoilt hr (by decide) rfl rfl (ab_cons (b_pv (pv 1)) (ab_cons (b_pv (pv 2)) (ab_cons (x_b (x_callB c__law_cell hr (by decide) rfl rfl (ab_cons (b_pv (pv 0)) (ab_cons (x_b x_int) ab_nil)))) ab_nil)))))))
    ss_nil)
    (ss_cons (s_if (t_eq rfl hr (x_b (x_ix rfl (b_pv (pv 3)) (x_b x_int))) (x_b x_int))
    (ss_one (s_asgL (ps_set (i := 2) sc_law.nd rfl (.inl rfl) (l_callB c__law_any_row hr (by decide) rfl rfl (ab_cons (b_pv (pv 1)) (ab_cons (x_b (x_callB c__law_cell hr (by decide) rfl rfl (ab_cons (b_pv (pv 0)) (ab_cons (x_b x_int) ab_nil)))) ab_nil))))))
    ss_nil)
    (ss_cons (s_if (t_w (w_or (t_not (t_val (x_callB c__law_answers hr (by decide) rfl rfl (ab_cons (b_pv (pv 1)) (ab_cons (b_pv (pv 2)) (ab_cons (x_b (x_eq rfl hr (x_b (x_ix rfl (b_pv (pv 3)) (x_b x_int))) (x_b x_int))) ab_nil)))))) (w_or1 (t_not (t_val (x_callB c__law_answers hr (by decide) rfl rfl (ab_cons (b_pv (pv 1)) (ab_cons (l_b (l_rev rfl (b_pv (pv 2)))) (ab_cons (x_b (x_eq rfl hr (x_b (x_ix rfl (b_pv (pv 3)) (x_b x_int))) (x_b x_int))) ab_nil)))))))))
    (ss_one (s_ret x_bl))
    ss_nil)
    (ss_cons (s_asgL (ps_set (i := 4) sc_law.nd rfl (.inl rfl) (l_listOf rfl rfl T.n_list (b_pv (pv 2)))))
    (ss_cons (s_for PassesOwn.never rfl (i_seq rfl (l_x (l_lst (a_cons (x_neg (x_b x_int)) (a_cons x_int (a_cons (x_ix rfl (b_pv (pv 1)) (x_b x_int)) (a_cons (x_add (x_b (x_ix rfl (b_pv (pv 1)) (x_b x_int))) (x_b x_int)) a_nil))))))) (g_name (pg_name (i := 5) sc_law.nd rfl (.inl rfl)))
    (ss_one (s_for PassesOwn.never rfl (i_seq rfl (l_x (l_lst (a_cons (x_neg (x_b x_int)) (a_cons x_int (a_cons (x_ix rfl (b_pv (pv 1)) (x_b x_int)) (a_cons (x_add (x_b (x_ix rfl (b_pv (pv 1)) (x_b x_int))) (x_b x_int)) a_nil))))))) (g_name (pg_name (i := 6) sc_law.nd rfl (.inl rfl)))
    (ss_one (s_appN rfl (pv 4) (x_tup (a_cons (x_pv (pv 5)) (a_cons (x_pv (pv 6)) a_nil))))))))
    (ss_cons (s_share 4 (s_for PassesOwn.never rfl (i_seq rfl (x_pv (pv 4))) (g_name (pg_name (i := 7) sc_law.nd rfl (.inl rfl)))
    (ss_cons (s_asg (ps_set (i := 8) sc_law.nd rfl (.inl rfl) (x_callB c_on_board hr (by decide) rfl rfl (ab_cons (b_pv (pv 1)) (ab_cons (b_pv (pv 7)) ab_nil)))))
    (ss_one (s_if (t_w (w_or (t_not (t_val (x_isi tab_bool rfl rfl T.n_isinstance (b_pv (pv 8)) (ty_bool rfl T.n_bool)))) (w_or1 (t_ne rfl hr (b_pv (pv 8)) (x_b (x_callB c__law_on_board hr (by decide) rfl rfl (ab_cons (b_pv (pv 1)) (ab_cons (b_pv (pv 7)) ab_nil))))))))
    (ss_one (s_ret x_bl))
    ss_nil)))))
    (ss_one (s_ret x_bl))))))))))))
abbrev si_OffBoard : Stmt := initOf (topS 2)
theorem in_OffBoard {P : Program} {w : World} {K : Fg} {mg : Str → Option Value} {base : Heap} {fI cda cc C : Addr} {kV doc pm ct oc : Value} {an od : Option Addr} {osl : Array (Option Value)}
    (lk : K.lookup fI = some ⟨oc, od, .func (PySem.W.ksFn "__init__" "OffBoard.__init__" (defArgs si_OffBoard) (defBody si_OffBoard) (defScope si_OffBoard) .none kV doc pm an (.ref cda) ct cc), osl⟩) (hcd : PySem.W.codeIn K (.ref cda) "OffBoard.__init__" = true) (hcc : ∃ o v, K.lookup cc = some o ∧ o.data = .cell v) (O : OexC K C) (F : SupF P K mg fI cda cc C) (h_corner : PySem.W.findIn K (.ref C) "corner" = some none)
    (gC : mg "OffBoard" = some (.ref C)) (iC : PySem.W.findIn K (.ref C) "__init__" = some (some (.ref fI))) (tI : PySem.W.typeIn K (.ref fI) = some (.type "function")) : ExcK P w K mg base 1 "OffBoard" C (["corner"] : List Str) :=
  init_mk (N := ["self", "corner", "__class__"]) (ns := (["corner"] : List Str)) (parts := [.inl "the corner ", .inr 1, .inl " is not on the board"]) rfl lk hcd hcc (NdefX.nscope_by (by decide +kernel)) rfl O F (by decide) (by decide) (by decide) (by decide +kernel) (by simp [h_corner])
    (fun A outer s H E hu => pe_joined (.cons pe_str (.cons (pe_fmtD hu (pv 1)) (.cons pe_str .nil)))) (fun A outer s H E => (pss_one (ps_ost (pv 0) (pv 1)))) (fun _ => rfl) (fun _ => rfl) (fun _ => rfl) (fun _ => rfl) gC iC tI (.all fun us hl => match us, hl with | [_, _], _ => rfl)
abbrev si_NotAPath : Stmt := initOf (topS 3)
theorem in_NotAPath {P : Program} {w : World} {K : Fg} {mg : Str → Option Value} {base : Heap} {fI cda cc C : Addr} {kV doc pm ct oc : Value} {an od : Option Addr} {osl : Array (Option Value)}
    (lk : K.lookup fI = some ⟨oc, od, .func (PySem.W.ksFn "__init__" "NotAPath.__init__" (defArgs si_NotAPath) (defBody si_NotAPath) (defScope si_NotAPath) .none kV doc pm an (.ref cda) ct cc), osl⟩) (hcd : PySem.W.codeIn K (.ref cda) "NotAPath.__init__" = true) (hcc : ∃ o v, K.lookup cc = some o ∧ o.data = .cell v) (O : OexC K C) (F : SupF P K mg fI cda cc C) (h_index : PySem.W.findIn K (.ref C) "index" = some none)
    (gC : mg "NotAPath" = some (.ref C)) (iC : PySem.W.findIn K (.ref C) "__init__" = some (some (.ref fI))) (tI : PySem.W.typeIn K (.ref fI) = some (.type "function")) : ExcK P w K mg base 1 "NotAPath" C (["index"] : List Str) :=
  init_mk (N := ["self", "index", "__class__"]) (ns := (["index"] : List Str)) (parts := [.inl "the row is no path at index ", .inr 1]) rfl lk hcd hcc (NdefX.nscope_by (by decide +kernel)) rfl O F (by decide) (by decide) (by decide) (by decide +kernel) (by simp [h_index])
    (fun A outer s H E hu => pe_joined (.cons pe_str (.cons (pe_fmtD hu (pv 1)) .nil))) (fun A outer s H E => (pss_one (ps_ost (pv 0) (pv 1)))) (fun _ => rfl) (fun _ => rfl) (fun _ => rfl) (fun _ => rfl) gC iC tI (.all fun us hl => match us, hl with | [_, _], _ => rfl)

end Toy

namespace Toy
open PySem L2 DD
def DrawsOk (sizes : List Int) (o : Out) : Prop := ∃ ds : List Int, o = .rtl (ds.map .int) ∧ ds.length = sizes.length ∧ ∀ (i : Nat) (d z : Int), ds[i]? = some d → sizes[i]? = some z → 0 ≤ d ∧ d < z
theorem draws_ok (c : Int) (sizes : List Int) (hp : ∀ z ∈ sizes, 0 < z ∧ z < 1000000) (hl : sizes.length ≤ 1000) : DrawsOk sizes (m__law_draws [.int c, .list (sizes.map .int)]) := by
  unfold m__law_draws mFn b__law_draws startS
  simp [f_pow]
  refine for_seq (Q := DrawsOk sizes) (ds := rangeD 0 sizes.length) ?_ (fun i s => ∃ (ds : List Int) (r : Int) (x5 x6 x7 : Option Sl), s = [some (.sh (.int c)), some (.sh (.list (sizes.map .int))), some (.ow (ds.map .int)), some (.sh (.int r)), some (.sh (.bool (decide ((1000000000000000000 : Int) ≤ c)))), x5, x6, x7] ∧ ds.length = i ∧ ∀ (i : Nat) (d z : Int), ds[i]? = some d → sizes[i]? = some z → 0 ≤ d ∧ d < z) ?_ ?_ ?_
  · rw [e_rng1 (n := sizes.length) (by simp) (lim_in (by omega))]; simp
  · exact ⟨[], c, none, none, none, rfl, rfl, by simp⟩
  · rintro i d s1 hd ⟨ds, r, x5, x6, x7, rfl, hn, hb⟩
    obtain ⟨hi, rfl⟩ := range_get0 hd
    have hz : sizes[i]? = some sizes[i] := List.getElem?_eq_getElem hi
    obtain ⟨z0, z1⟩ := hp _ (List.getElem_mem hi)
    have hix : L2.atI (sizes.map PyData.int) (i : Int) = some (.int sizes[i]) := atI_nat' (by omega) (by simp)
    have more : ∀ (x : Int), 0 ≤ x ∧ x < sizes[i] → ∀ (j : Nat) (d z : Int), (ds ++ [x])[j]? = some d → sizes[j]? = some z → 0 ≤ d ∧ d < z := by
      intro x hx j d z h1 h2
      rw [List.getElem?_append] at h1
      split at h1
      · exact hb j d z h1 h2
      · rename_i h3
        have : j = i := by
          have h4 := (List.getElem?_eq_some_iff.mp h1).1
          simp at h4; omega
        subst this
        rw [hz] at h2; cases h2
        rw [show j - ds.length = 0 by omega] at h1
        simp at h1; subst h1; exact hx
    have fin : ∀ x : Int, ∃ ds1 : List Int, ds.map PyData.int ++ [PyData.int (x % sizes[i])] = ds1.map PyData.int ∧ ds1.length = i + 1 ∧ ∀ (i : Nat) (d z : Int), ds1[i]? = some d → sizes[i]? = some z → 0 ≤ d ∧ d < z := fun x =>
      ⟨ds ++ [x % sizes[i]], by simp, by simp [hn], more _ ⟨Int.emod_nonneg _ (by omega), Int.emod_lt_of_pos _ z0⟩⟩
    refine ⟨_, rfl, ?_⟩
    have hds : ds.length < 100000 := by omega
    by_cases hc : (1000000000000000000 : Int) ≤ c ∧ 0 < r
    · have hd2 : 0 < sizes[i] ∧ sizes[i] < 1073741824 := ⟨z0, by omega⟩
      simp [hix, f_mod, f_div hd2, hc.1, hc.2, hds, z0]
      exact fin _
    · have hc' : (if (1000000000000000000 : Int) ≤ c then some (decide (0 < r)) else some false) = some false := by
        split
        · simp; omega
        · rfl
      simp [hix, f_mod, f_div, f_mul, f_mulM, hc', hds, z0]
      exact fin _
  · rintro s1 ⟨ds, r, x5, x6, x7, rfl, hn, hb⟩
    simp
    rw [range_len] at hn
    exact ⟨ds, rfl, hn, hb⟩
/-- a call of it -/
theorem lst_draws {c : Int} {sizes : List Int} (hp : ∀ z ∈ sizes, 0 < z ∧ z < 1000000) (hl : sizes.length ≤ 1000) : ∃ f : Nat → Int, (lstOf (m__law_draws [.int c, .list (sizes.map .int)])).bind okList = some (dl f sizes.length) ∧ ∀ (i : Nat) (z : Int), sizes[i]? = some z → 0 ≤ f i ∧ f i < z := by
  obtain ⟨ds, h, q, hb⟩ := draws_ok c sizes hp hl
  refine ⟨fun i => ds.getD i 0, by rw [h, lst_1, Option.bind_some, ok_1 (flat_I ds), dl_of, q], fun i z hz => ?_⟩
  have hi : i < ds.length := by rw [q]; exact (List.getElem?_eq_some_iff.mp hz).1
  have : ds[i]? = some (ds.getD i 0) := by simp [hi]
  exact hb i _ z this hz
theorem cell_ok (ns : List Int) (k : Nat) (hl : ns.length ≤ 1000) : ∃ c : Int, m__law_cell [.list (ns.map .int), .int k] = .rt (.int c) := by
  unfold m__law_cell mFn b__law_cell startS
  by_cases h : (k : Int) < ns.length
  · have hk : k < ns.length := by omega
    refine ⟨ns[k], ?_⟩
    have hix : L2.atI (ns.map PyData.int) (k : Int) = some (.int ns[k]) := atI_nat' (by omega) (by simp [hk])
    simp [h, hix]
  · refine ⟨0, ?_⟩
    simp [h]
/-- a board with sides from 0 to n -/
def Board (n : Int) (w h : Int) : Prop := 0 ≤ w ∧ w ≤ n ∧ 0 ≤ h ∧ h ≤ n
theorem board_ok (c n : Int) (hn : 0 < n ∧ n < 1000) : ∃ w h, m__law_board [.int c, .int n] = .rt (eC (w, h)) ∧ Board n w h := by
  obtain ⟨f, hd, hb⟩ := lst_draws (c := c) (sizes := [8, n, n, n + 1, n + 1]) (by simp; omega) (by simp)
  have b1 := hb 1 _ rfl
  have b2 := hb 2 _ rfl
  have b3 := hb 3 _ rfl
  have b4 := hb 4 _ rfl
  simp at hd
  unfold m__law_board mFn b__law_board startS
  simp [hd, atI_dl]
  by_cases h0 : f 0 = 0
  · exact ⟨f 3, f 4, by simp [h0, eC], by omega, by omega, by omega, by omega⟩
  · exact ⟨f 1 + 1, f 2 + 1, by simp [h0, eC], by omega, by omega, by omega, by omega⟩
def onB (b p : Pt) : Bool := decide (0 ≤ p.1 ∧ p.1 ≤ b.1) && decide (0 ≤ p.2 ∧ p.2 ≤ b.2)
theorem on_ok (b p : Pt) : m__law_on_board [eC b, eC p] = .rt (.bool (onB b p)) := by
  unfold m__law_on_board mFn b__law_on_board startS onB
  simp
  by_cases h1 : 0 ≤ p.1 <;> by_cases h2 : p.1 ≤ b.1 <;> by_cases h3 : 0 ≤ p.2 <;> simp [h1, h2, h3]
theorem NS_ok {k : Int} (h : 0 ≤ k ∧ k < 2) : ∃ L : Str, L2.atI [PyData.str ("N" : Str), .str ("S" : Str)] k = some (.str L) := by
  rcases (show k = 0 ∨ k = 1 by omega) with e | e <;> rw [e]
  · exact ⟨_, rfl⟩
  · exact ⟨_, rfl⟩
theorem two_ok {k : Int} {a b : D} (h : 0 ≤ k ∧ k < 2) : L2.atI [a, b] k = some (if k = 0 then a else b) := by
  rcases (show k = 0 ∨ k = 1 by omega) with e | e <;> rw [e] <;> rfl
theorem head_ok (l : List Pt) (x : Pt) : ∃ y, L2.atI (l.map eC ++ [eC x]) 0 = some (eC y) := by
  cases l with
  | nil => exact ⟨x, rfl⟩
  | cons y l => exact ⟨y, by rw [atI_eq]; rfl⟩
theorem draws2 (c : Int) (n : Nat) (hn : n ≤ 100) : ∃ f : Nat → Int, (lstOf (m__law_draws [.int c, .list ((List.replicate n 2).map .int)])).bind okList = some (dl f n) ∧ ∀ i : Nat, i < n → 0 ≤ f i ∧ f i < 2 := by
  obtain ⟨f, hd, hb⟩ := lst_draws (c := c) (sizes := List.replicate n 2) (by simp) (by simp; omega)
  refine ⟨f, by simpa using hd, fun i hi => hb i 2 (by simp [hi])⟩
def nt (l : List Pt) (i : Nat) : Pt := l.getD i (0, 0)
theorem nt_get {l : List Pt} {i : Nat} (h : i < l.length) : nt l i = l[i] := by unfold nt; simp [h]
theorem nt_in {l : List Pt} {i : Nat} (h : i < l.length) : nt l i ∈ l := by unfold nt; simp [h]
theorem nt_at {l : List Pt} {i : Nat} (h : i < l.length) : l[i]? = some (nt l i) := by unfold nt; simp [h]
theorem atI_some {l : List Pt} {i : Int} (h : 0 ≤ i ∧ i < l.length) : L2.atI l i = some (nt l i.toNat) := by
  have hk : i.toNat < l.length := by omega
  exact atI_nat' h.1 (nt_at hk)
theorem atI_end {l : List Pt} (h : l ≠ []) : L2.atI l (-1) = some (nt l (l.length - 1)) := by
  have : 0 < l.length := List.length_pos_iff.mpr h
  have e : (-1 + (l.length : Int)).toNat = l.length - 1 := by omega
  refine atI_neg (by omega) (by omega) ?_
  rw [e]; exact nt_at (by omega)
theorem pick {l : List Pt} (hl : l ≠ []) (i : Int) : L2.atI l (i % (l.length : Int)) = some (nt l (i % (l.length : Int)).toNat) := by
  have : 0 < l.length := List.length_pos_iff.mpr hl
  exact atI_some ⟨Int.emod_nonneg _ (by omega), Int.emod_lt_of_pos _ (by omega)⟩
theorem cut_map {α β : Type} {f : α → β} {l : List α} {lo hi : Option Int} : cutD (l.map f) lo hi = (cutD l lo hi).map f := by
  unfold cutD
  simp [List.map_take, List.map_drop]
@[simp] theorem fixL {l : List Pt} {i : Int} : L2.atI (l.map eC) i = (L2.atI l i).map eC := ixL_C

def norm (l : List Pt) : List Pt := if ptLt (nt l (l.length - 1)) (nt l 0) = true then l.reverse else l
def txt (cs : List Nat) : Str := ⟨cs.toArray⟩
theorem txt_add (a b : List Nat) : txt a ++ txt b = txt (a ++ b) := by
  show (⟨a.toArray ++ b.toArray⟩ : Str) = ⟨(a ++ b).toArray⟩
  rw [List.append_toArray]
theorem txt_len (a : List Nat) : (txt a).length = a.length := rfl
theorem txt_inj {a b : List Nat} : txt a = txt b ↔ a = b := by
  unfold txt
  constructor
  · intro h
    have := congrArg (fun s : Str => s.cps.toList) h
    simpa using this
  · rintro rfl; rfl
theorem txt_beq (a b : List Nat) : (txt a == txt b) = decide (a = b) := by
  rw [Bool.eq_iff_iff, beq_iff_eq, decide_eq_true_iff]
  exact txt_inj
/-! ### steps -/
def sc (a b : Pt) : Option Nat := if [(1 : Int), 0] = [b.1 - a.1, b.2 - a.2] then some 69 else if [(-1 : Int), 0] = [b.1 - a.1, b.2 - a.2] then some 87 else if [(0 : Int), 1] = [b.1 - a.1, b.2 - a.2] then some 78 else if [(0 : Int), -1] = [b.1 - a.1, b.2 - a.2] then some 83 else none
def dO : Option Nat → D
  | none => .none
  | some c => .str (txt [c])
theorem tE : ("E" : Str) = txt [69] := by decide +kernel
theorem tW : ("W" : Str) = txt [87] := by decide +kernel
theorem tN : ("N" : Str) = txt [78] := by decide +kernel
theorem tS : ("S" : Str) = txt [83] := by decide +kernel
theorem t0 : ("" : Str) = txt [] := by decide +kernel
theorem callV_O {o : Option Nat} : callV (.rt (dO o)) = some (dO o) := by cases o <;> rfl
theorem dir_ok (a b : Pt) : m_direction [eC a, eC b] = .rt (dO (sc a b)) := by
  unfold m_direction mFn b_direction startS
  have key : fGetK look_DIRECTIONS (.tuple [.int (b.1 - a.1), .int (b.2 - a.2)]) = some (dO (sc a b)) := by
    have k1 : keyD (.tuple [.int (b.1 - a.1), .int (b.2 - a.2)]) = some [b.1 - a.1, b.2 - a.2] := rfl
    unfold fGetK
    rw [k1, Option.map_some]
    unfold look_DIRECTIONS sc
    by_cases h1 : [(1 : Int), 0] = [b.1 - a.1, b.2 - a.2]
    · rw [if_pos h1, if_pos h1, tE]; rfl
    rw [if_neg h1, if_neg h1]
    by_cases h2 : [(-1 : Int), 0] = [b.1 - a.1, b.2 - a.2]
    · rw [if_pos h2, if_pos h2, tW]; rfl
    rw [if_neg h2, if_neg h2]
    by_cases h3 : [(0 : Int), 1] = [b.1 - a.1, b.2 - a.2]
    · rw [if_pos h3, if_pos h3, tN]; rfl
    rw [if_neg h3, if_neg h3]
    by_cases h4 : [(0 : Int), -1] = [b.1 - a.1, b.2 - a.2]
    · rw [if_pos h4, if_pos h4, tS]; rfl
    rw [if_neg h4, if_neg h4]
    rfl
  simp [key]
def stp (p : Pt) (x : Str) : Pt := if x == ("E" : Str) then (p.1 + 1, p.2) else if x == ("W" : Str) then (p.1 - 1, p.2) else if x == ("N" : Str) then (p.1, p.2 + 1) else (p.1, p.2 - 1)
theorem stepped_ok (p : Pt) (x : Str) : m__law_stepped [eC p, .str x] = .rt (eC (stp p x)) := by
  unfold m__law_stepped mFn b__law_stepped startS stp
  simp [mk_C]
  by_cases h1 : x = ("E" : Str)
  · simp [h1]
  · by_cases h2 : x = ("W" : Str)
    · subst h2; simp [h1]
    · by_cases h3 : x = ("N" : Str)
      · subst h3; simp [h1, h2]
      · simp [h1, h2, h3]
theorem stE (p : Pt) : stp p ("E" : Str) = (p.1 + 1, p.2) := rfl
theorem stW (p : Pt) : stp p ("W" : Str) = (p.1 - 1, p.2) := rfl
theorem stN (p : Pt) : stp p ("N" : Str) = (p.1, p.2 + 1) := rfl
theorem stS (p : Pt) : stp p ("S" : Str) = (p.1, p.2 - 1) := rfl
/-- the law's letter: nothing where there is none -/
def lt (a b : Pt) : List Nat := match sc a b with
  | none => []
  | some c => [c]
theorem ldir_ok (a b : Pt) : m__law_direction [eC a, eC b] = .rt (.str (txt (lt a b))) := by
  unfold m__law_direction mFn b__law_direction startS lt sc
  have qE : (([(1 : Int), 0] = [b.1 - a.1, b.2 - a.2]) : Prop) ↔ stp a ("E" : Str) = b := by
    rw [stE]; constructor
    · intro h; simp at h; ext <;> simp <;> omega
    · rintro rfl; simp; omega
  have qW : (([(-1 : Int), 0] = [b.1 - a.1, b.2 - a.2]) : Prop) ↔ stp a ("W" : Str) = b := by
    rw [stW]; constructor
    · intro h; simp at h; ext <;> simp <;> omega
    · rintro rfl; simp; omega
  have qN : (([(0 : Int), 1] = [b.1 - a.1, b.2 - a.2]) : Prop) ↔ stp a ("N" : Str) = b := by
    rw [stN]; constructor
    · intro h; simp at h; ext <;> simp <;> omega
    · rintro rfl; simp; omega
  have qS : (([(0 : Int), -1] = [b.1 - a.1, b.2 - a.2]) : Prop) ↔ stp a ("S" : Str) = b := by
    rw [stS]; constructor
    · intro h; simp at h; ext <;> simp <;> omega
    · rintro rfl; simp; omega
  by_cases h1 : stp a ("E" : Str) = b
  · rw [if_pos (qE.mpr h1)]
    show _ = Out.rt (.str (txt [69]))
    rw [← tE]
    simp [e_forS, e_for1, e_for0, stepped_ok, h1]
  rw [if_neg (fun z => h1 (qE.mp z))]
  by_cases h2 : stp a ("W" : Str) = b
  · rw [if_pos (qW.mpr h2)]
    show _ = Out.rt (.str (txt [87]))
    rw [← tW]
    simp [e_forS, e_for1, e_for0, stepped_ok, h1, h2]
  rw [if_neg (fun z => h2 (qW.mp z))]
  by_cases h3 : stp a ("N" : Str) = b
  · rw [if_pos (qN.mpr h3)]
    show _ = Out.rt (.str (txt [78]))
    rw [← tN]
    simp [e_forS, e_for1, e_for0, stepped_ok, h1, h2, h3]
  rw [if_neg (fun z => h3 (qN.mp z))]
  by_cases h4 : stp a ("S" : Str) = b
  · rw [if_pos (qS.mpr h4)]
    show _ = Out.rt (.str (txt [83]))
    rw [← tS]
    simp [e_forS, e_for1, e_for0, stepped_ok, h1, h2, h3, h4]
  rw [if_neg (fun z => h4 (qS.mp z))]
  show _ = Out.rt (.str (txt []))
  rw [← t0]
  simp [e_forS, e_for1, e_for0, stepped_ok, h1, h2, h3, h4]
/-! ### what fits together -/
def fitC (cs : List (Option Nat)) : Bool := !decide (none ∈ cs) && (!(decide (some 69 ∈ cs) && decide (some 87 ∈ cs)) && !(decide (some 78 ∈ cs) && decide (some 83 ∈ cs)))
theorem dO_depth (cs : List (Option Nat)) : PyData.depthAll (cs.map dO) ≤ 1 := by
  induction cs with
  | nil => simp [PyData.depthAll]
  | cons c cs ih => cases c <;> simp [PyData.depthAll, dO, PyData.depth] <;> omega
theorem dO_eqv (a b : Option Nat) : PyData.eqv (dO a) (dO b) = decide (a = b) := by
  cases a with
  | none => cases b <;> simp [dO, PyData.eqv]
  | some x => cases b with
    | none => simp [dO, PyData.eqv]
    | some y =>
      simp only [dO, PyData.eqv, txt_beq]
      simp
theorem in_O (o : Option Nat) (cs : List (Option Nat)) : fIn false (dO o) (.list (cs.map dO)) = some (.bool (decide (o ∈ cs))) := by
  have e : ((cs.map dO).any fun z => PyData.eqv z (dO o)) = decide (o ∈ cs) := by
    rw [List.any_map]
    induction cs with
    | nil => simp
    | cons q l ih =>
      rw [List.any_cons, ih]
      simp only [Function.comp, dO_eqv]
      by_cases h1 : q = o
      · subst h1; simp
      · have : ¬ o = q := fun h => h1 h.symm
        simp [h1, this]
  unfold fIn
  simp only
  rw [if_pos (by have := dO_depth cs; omega), e]
  simp
theorem fit_ok (cs : List (Option Nat)) : m__fit_together [.list (cs.map dO)] = .rt (.bool (fitC cs)) := by
  unfold m__fit_together mFn b__fit_together startS fitC
  have i0 : fIn false .none (.list (cs.map dO)) = some (.bool (decide (none ∈ cs))) := in_O none cs
  have i1 : fIn false (.str (txt [69])) (.list (cs.map dO)) = some (.bool (decide (some 69 ∈ cs))) := in_O (some 69) cs
  have i2 : fIn false (.str (txt [87])) (.list (cs.map dO)) = some (.bool (decide (some 87 ∈ cs))) := in_O (some 87) cs
  have i3 : fIn false (.str (txt [78])) (.list (cs.map dO)) = some (.bool (decide (some 78 ∈ cs))) := in_O (some 78) cs
  have i4 : fIn false (.str (txt [83])) (.list (cs.map dO)) = some (.bool (decide (some 83 ∈ cs))) := in_O (some 83) cs
  by_cases h0 : none ∈ cs
  · simp [i0, h0]
  · by_cases h1 : some 69 ∈ cs <;> by_cases h2 : some 87 ∈ cs <;> by_cases h3 : some 78 ∈ cs <;> by_cases h4 : some 83 ∈ cs <;> simp [i0, tE, tW, tN, tS, i1, i2, i3, i4, h0, h1, h2, h3, h4]
/-! ### the first fault -/
def ocs (l : List Pt) (k : Nat) : List (Option Nat) := (List.range k).map fun j => sc (nt l j) (nt l (j + 1))
def us (l : List Pt) : Nat → List Nat
  | 0 => []
  | k + 1 => us l k ++ lt (nt l k) (nt l (k + 1))
theorem ocs_succ (l : List Pt) (k : Nat) : ocs l (k + 1) = ocs l k ++ [sc (nt l k) (nt l (k + 1))] := by
  unfold ocs
  rw [List.range_succ, List.map_append]
  rfl
theorem ocs_us (l : List Pt) : ∀ k, none ∉ ocs l k → ocs l k = (us l k).map some
  | 0, _ => rfl
  | k + 1, h => by
    rw [ocs_succ] at h ⊢
    have h1 : none ∉ ocs l k := fun z => h (List.mem_append_left _ z)
    rw [ocs_us l k h1, us, List.map_append]
    congr 1
    unfold lt
    cases e : sc (nt l k) (nt l (k + 1)) with
    | none => exact (h (by rw [e]; simp)).elim
    | some c => rfl
theorem sc_four {a b : Pt} {c : Nat} (h : sc a b = some c) : c = 69 ∨ c = 87 ∨ c = 78 ∨ c = 83 := by
  unfold sc at h
  split at h
  · cases h; simp
  · split at h
    · cases h; simp
    · split at h
      · cases h; simp
      · split at h
        · cases h; simp
        · cases h
def Four (u : List Nat) : Prop := ∀ c ∈ u, c = 69 ∨ c = 87 ∨ c = 78 ∨ c = 83
theorem us_four (l : List Pt) : ∀ k, Four (us l k)
  | 0 => fun c h => by cases h
  | k + 1 => fun c h => by
    rw [us] at h
    rcases List.mem_append.mp h with h | h
    · exact us_four l k c h
    · unfold lt at h
      cases e : sc (nt l k) (nt l (k + 1)) with
      | none => rw [e] at h; cases h
      | some x =>
        rw [e] at h
        have : c = x := by simpa using h
        subst this
        exact sc_four e
theorem us_len (l : List Pt) : ∀ k, (us l k).length ≤ k
  | 0 => Nat.le_refl _
  | k + 1 => by
    rw [us, List.length_append]
    have := us_len l k
    have : (lt (nt l k) (nt l (k + 1))).length ≤ 1 := by unfold lt; split <;> simp
    omega
def chk (b : Pt) (l : List Pt) (i : Nat) : Option (Pt ⊕ Nat) := if onB b (nt l i) = false then some (.inl (nt l i)) else if fitC (ocs l i) = false then some (.inr i) else none
def res (b : Pt) (l : List Pt) : Option (Pt ⊕ Nat) := if l = [] then some (.inr 0) else (List.range l.length).findSome? (chk b l)
theorem find_none {α : Type} {c : Nat → Option α} {n : Nat} (h : ∀ j, j < n → c j = none) : (List.range n).findSome? c = none := by
  rw [List.findSome?_eq_none_iff]
  intro j hj
  exact h j (List.mem_range.mp hj)
theorem find_hit {α : Type} {c : Nat → Option α} {x : α} : ∀ {n i : Nat}, (∀ j, j < i → c j = none) → i < n → c i = some x → (List.range n).findSome? c = some x
  | 0, _, _, h, _ => by omega
  | n + 1, i, h1, h2, h3 => by
    rw [List.range_succ, List.findSome?_append]
    rcases Nat.lt_or_ge i n with q | q
    · rw [find_hit h1 q h3]; rfl
    · have : i = n := by omega
      subst this
      rw [find_none h1]
      simp [h3]
theorem chk_fit {b : Pt} {l : List Pt} {i : Nat} (h : chk b l i = none) : fitC (ocs l i) = true := by
  unfold chk at h
  split at h
  · cases h
  · split at h
    · cases h
    · rename_i z; simpa using z
theorem fit_some {cs : List (Option Nat)} (h : fitC cs = true) : none ∉ cs := by
  intro z
  unfold fitC at h
  simp [z] at h
theorem res_hit {b : Pt} {l : List Pt} {i : Nat} {x : Pt ⊕ Nat} (h1 : ∀ j, j < i → chk b l j = none) (h2 : i < l.length) (h3 : chk b l i = some x) : res b l = some x := by
  unfold res
  rw [if_neg (fun z => by rw [z] at h2; simp at h2)]
  exact find_hit h1 h2 h3
theorem res_none {b : Pt} {l : List Pt} (h0 : l ≠ []) (h1 : ∀ j, j < l.length → chk b l j = none) : res b l = none := by
  unfold res
  rw [if_neg h0]
  exact find_none h1
def faultD : Pt ⊕ Nat → D
  | .inl p => .tuple [.str "off", eC p]
  | .inr i => .tuple [.str "fault", .int (i : Nat)]
def dueD (b : Pt) (l : List Pt) : D := match res b l with
  | some x => faultD x
  | none => .tuple [.str "path", .list ((norm l).map eC)]
def toldD (b : Pt) (l : List Pt) : D := match res b l with
  | some x => faultD x
  | none => .tuple [.str "path", eP (norm l)]
def pathR (b : Pt) (l : List Pt) : Out := match res b l with
  | some (.inl p) => .ex "OffBoard" [eC p]
  | some (.inr i) => .ex "NotAPath" [.int (i : Nat)]
  | none => .rt (eP (norm l))
/-! ### the law's own reckoning -/
theorem four_lay {u : List Nat} (h : Four u) : u.all layC = true := List.all_eq_true.mpr fun c hc => by
  rcases h c hc with rfl | rfl | rfl | rfl <;> decide +kernel
theorem within_ok {u s : List Nat} (hu : Four u) (hl : u.length ≤ 200) : m__law_within [.str (txt u), .str (txt s)] = .rt (.bool (decide (∀ c ∈ u, c ∈ s))) := by
  unfold m__law_within mFn b__law_within startS
  have hi : iStrD (mVarB 0) [some (.sh (.str (txt u))), some (.sh (.str (txt s))), none] = some (u.map fun c => PyData.str (txt [c])) := by
    unfold iStrD
    have e : (txt u).cps.toList = u := rfl
    simp only [e_varB, List.getElem?_cons_zero, anyAt_1, Option.bind_some, e, four_lay hu, if_true]
    rfl
  have hm : mLc (iStrD (mVarB 0)) (gN 2) (mT (m2 (fInS true) (mVarB 2) (mVarB 1))) (mVar 2) [2] [some (.sh (.str (txt u))), some (.sh (.str (txt s))), none] = some ((u.filter fun c => !decide (c ∈ s)).map fun c => .str (txt [c])) := by
    refine lc_of (xs := u) (e := fun c => .str (txt [c])) (f := fun c => .str (txt [c])) rfl hi (by omega) fun c _ => ⟨_, rfl, ?_, fun _ => rfl⟩
    have : fInS true (.str (txt [c])) (.str (txt s)) = some (.bool (!decide (c ∈ s))) := rfl
    simp [wipeS, this]
  have hf : ((u.filter fun c => !decide (c ∈ s)).length = 0) ↔ ∀ c ∈ u, c ∈ s := by
    rw [List.length_eq_zero_iff, List.filter_eq_nil_iff]
    constructor
    · intro h c hc
      have := h c hc
      simpa using this
    · intro h c hc
      simp [h c hc]
  generalize (u.filter fun c => !decide (c ∈ s)) = F at hm hf
  by_cases h : ∀ c ∈ u, c ∈ s
  · have hF : F = [] := List.length_eq_zero_iff.mp (hf.mpr h)
    rw [decide_eq_true h]
    simp [hm, hF]
  · have hF : ¬ F = [] := fun z => h (hf.mp (by rw [z]; rfl))
    rw [decide_eq_false h]
    simp [hm, hF]
def sets : List (List Nat) := [[69, 78], [87, 83], [69, 83], [87, 78]]
theorem sets_none {u : List Nat} (hu : Four u) : ((sets.filter fun s => decide (∀ c ∈ u, c ∈ s)).length = 0) ↔ fitC (u.map some) = false := by
  have two : ∀ {x y z w : Nat}, (∀ c ∈ u, c = x ∨ c = y ∨ c = z ∨ c = w) → x ≠ z → x ≠ w → y ≠ z → y ≠ w → ((∀ c ∈ u, c ∈ [x, y]) ↔ z ∉ u ∧ w ∉ u) := by
    intro x y z w h n1 n2 n3 n4
    constructor
    · intro q
      refine ⟨fun m => ?_, fun m => ?_⟩
      · have := q z m; simp at this; omega
      · have := q w m; simp at this; omega
    · rintro ⟨q1, q2⟩ c hc
      rcases h c hc with e | e | e | e
      · simp [e]
      · simp [e]
      · exact (q1 (e ▸ hc)).elim
      · exact (q2 (e ▸ hc)).elim
  have s1 : (∀ c ∈ u, c ∈ [69, 78]) ↔ 87 ∉ u ∧ 83 ∉ u := two (fun c hc => by have := hu c hc; omega) (by decide) (by decide) (by decide) (by decide)
  have s2 : (∀ c ∈ u, c ∈ [87, 83]) ↔ 69 ∉ u ∧ 78 ∉ u := two (fun c hc => by have := hu c hc; omega) (by decide) (by decide) (by decide) (by decide)
  have s3 : (∀ c ∈ u, c ∈ [69, 83]) ↔ 87 ∉ u ∧ 78 ∉ u := two (fun c hc => by have := hu c hc; omega) (by decide) (by decide) (by decide) (by decide)
  have s4 : (∀ c ∈ u, c ∈ [87, 78]) ↔ 69 ∉ u ∧ 83 ∉ u := two (fun c hc => by have := hu c hc; omega) (by decide) (by decide) (by decide) (by decide)
  have m : ∀ x : Nat, (some x ∈ u.map some) ↔ x ∈ u := fun x => by simp
  have n : (none : Option Nat) ∉ u.map some := by simp
  have dm : ∀ x : Nat, decide (some x ∈ u.map some) = decide (x ∈ u) := fun x => decide_eq_decide.mpr (m x)
  have d1 : decide (∀ c ∈ u, c ∈ [69, 78]) = decide (87 ∉ u ∧ 83 ∉ u) := decide_eq_decide.mpr s1
  have d2 : decide (∀ c ∈ u, c ∈ [87, 83]) = decide (69 ∉ u ∧ 78 ∉ u) := decide_eq_decide.mpr s2
  have d3 : decide (∀ c ∈ u, c ∈ [69, 83]) = decide (87 ∉ u ∧ 78 ∉ u) := decide_eq_decide.mpr s3
  have d4 : decide (∀ c ∈ u, c ∈ [87, 78]) = decide (69 ∉ u ∧ 83 ∉ u) := decide_eq_decide.mpr s4
  unfold sets fitC
  rw [List.filter_cons, List.filter_cons, List.filter_cons, List.filter_cons, List.filter_nil, d1, d2, d3, d4]
  simp only [decide_eq_false n, dm 69, dm 87, dm 78, dm 83]
  by_cases h1 : 69 ∈ u <;> by_cases h2 : 87 ∈ u <;> by_cases h3 : 78 ∈ u <;> by_cases h4 : 83 ∈ u <;> simp [h1, h2, h3, h4]
end Toy

namespace Toy
open PySem L2 DD
theorem sE2 : ("EN" : Str) = txt [69, 78] := by decide +kernel
theorem sW2 : ("WS" : Str) = txt [87, 83] := by decide +kernel
theorem sE3 : ("ES" : Str) = txt [69, 83] := by decide +kernel
theorem sW3 : ("WN" : Str) = txt [87, 78] := by decide +kernel
theorem lt_four (a b : Pt) : Four (lt a b) := fun c h => by
  unfold lt at h
  cases e : sc a b with
  | none => rw [e] at h; cases h
  | some x =>
    rw [e] at h
    have : c = x := by simpa using h
    subst this
    exact sc_four e
theorem due_ok {b : Pt} {l : List Pt} (hl : l.length ≤ 100) : m__law_due [eC b, .list (l.map eC)] = .rt (dueD b l) := by
  unfold m__law_due mFn b__law_due startS
  by_cases h0 : l = []
  · subst h0
    simp [dueD, res, faultD]
  have hp := List.length_pos_iff.mpr h0
  simp [h0]
  refine for_seq (Q := fun o => o = .rt (dueD b l)) (ds := rangeD 0 l.length) ?_ (fun i s => (∀ j, j < i → chk b l j = none) ∧ ∃ x3 x4 x5 : Option Sl, s = [some (.sh (eC b)), some (.sh (.list (l.map eC))), some (.sh (.str (txt (us l (i - 1))))), x3, x4, x5, none]) ⟨fun j hj => (by omega), none, none, none, by rw [t0]; rfl⟩ ?_ ?_
  · exact e_rng1 (n := l.length) (by simp) (lim_in (by omega))
  · rintro i d s1 hd ⟨hI, x3, x4, x5, rfl⟩
    obtain ⟨hi, rfl⟩ := range_get0 hd
    have ai : L2.atI l (i : Int) = some (nt l i) := atI_some (by omega)
    have ul := us_len l (i - 1)
    refine ⟨_, rfl, ?_⟩
    by_cases hb : onB b (nt l i) = true
    · rcases Nat.eq_zero_or_pos i with z | z
      · subst z
        have a0 : L2.atI l 0 = some (nt l 0) := ai
        simp [a0, on_ok, hb]
        unfold chk
        simp [hb, ocs, fitC]
      · obtain ⟨k, rfl⟩ : ∃ k, i = k + 1 := ⟨i - 1, by omega⟩
        have ak : L2.atI l (k : Int) = some (nt l k) := by
          rw [atI_some (by omega)]; congr 2
        have ai' : L2.atI l ((k : Int) + 1) = some (nt l (k + 1)) := by
          rw [atI_some (by omega)]; congr 2
        have kp : (0 : Int) < (k : Int) + 1 := by omega
        have ad : fAdd (.str (txt (us l k))) (.str (txt (lt (nt l k) (nt l (k + 1))))) = some (.str (txt (us l (k + 1)))) := by
          have := us_len l (k + 1)
          rw [us, List.length_append] at this
          rw [f_addS (by rw [txt_len, txt_len]; omega), txt_add, us]
        have hc : mLc (iSeq (mL (mLst (mCons (mC (.str "EN")) (mCons (mC (.str "WS")) (mCons (mC (.str "ES")) (mCons (mC (.str "WN")) mNil))))))) (gN 6) (mT (mCallB 2 m__law_within (mCons (mVarB 2) (mCons (mVarB 6) mNil)))) (mVar 6) [6]
            [some (.sh (eC b)), some (.sh (.list (l.map eC))), some (.sh (.str (txt (us l (k + 1))))), some (.sh (.int ((k : Int) + 1))), some (.sh (.str (txt (lt (nt l k) (nt l (k + 1)))))), x5, none] = some ((sets.filter fun s => decide (∀ c ∈ us l (k + 1), c ∈ s)).map fun s => .str (txt s)) := by
          refine lc_of (xs := sets) (e := fun s => .str (txt s)) (f := fun s => .str (txt s)) rfl (by simp [sets, sE2, sW2, sE3, sW3]) (by decide) fun s _ => ⟨_, rfl, ?_, fun _ => rfl⟩
          have ul1 := us_len l (k + 1)
          simp [wipeS, within_ok (us_four l (k + 1)) (show (us l (k + 1)).length ≤ 200 by omega)]
        have hs := sets_none (us_four l (k + 1))
        have hz : ((txt (lt (nt l k) (nt l (k + 1))) == ("" : Str)) = true) ↔ sc (nt l k) (nt l (k + 1)) = none := by
          rw [t0, txt_beq]
          unfold lt
          cases sc (nt l k) (nt l (k + 1)) <;> simp
        have nf := fit_some (chk_fit (hI k (by omega)))
        have hfit : (sc (nt l k) (nt l (k + 1)) = none ∨ (sets.filter fun s => decide (∀ c ∈ us l (k + 1), c ∈ s)).length = 0) ↔ fitC (ocs l (k + 1)) = false := by
          by_cases q : sc (nt l k) (nt l (k + 1)) = none
          · have : none ∈ ocs l (k + 1) := by rw [ocs_succ, q]; simp
            simp [q, fitC, this]
          · have : none ∉ ocs l (k + 1) := by
              rw [ocs_succ]
              intro z
              rcases List.mem_append.mp z with z | z
              · exact nf z
              · exact q (List.mem_singleton.mp z).symm
            rw [ocs_us l _ this, ← hs]
            simp [q]
        generalize (sets.filter fun s => decide (∀ c ∈ us l (k + 1), c ∈ s)) = F at hc hs hfit
        generalize ht : (txt (lt (nt l k) (nt l (k + 1))) == ("" : Str)) = t at hz
        by_cases hf : fitC (ocs l (k + 1)) = false
        · have hr : dueD b l = .tuple [.str "fault", .int ((k : Int) + 1)] := by
            unfold dueD
            rw [res_hit (x := .inr (k + 1)) hI hi (by unfold chk; rw [if_neg (by simp [hb]), if_pos hf])]
            rfl
          have or' := hfit.mpr hf
          rw [← hz] at or'
          simp [ai', on_ok, hb, ak, kp, ldir_ok, ad, hc, hr, ht]
          rcases or' with e | e
          · simp [e]
          · cases t <;> simp [e]
        · have nr : ¬ (t = true ∨ F.length = 0) := fun z => by
            rw [hz] at z
            exact hf (hfit.mp z)
          simp [ai', on_ok, hb, ak, kp, ldir_ok, ad, hc, ht]
          have t1 : t = false := by
            cases t
            · rfl
            · exact (nr (.inl rfl)).elim
          have f1 : ¬ F = [] := fun z => nr (.inr (by rw [z]; rfl))
          simp [t1, f1]
          intro j hj
          rcases Nat.lt_or_ge j (k + 1) with q | q
          · exact hI j q
          · have : j = k + 1 := by omega
            subst this
            unfold chk
            rw [if_neg (by simp [hb]), if_neg hf]
    · have hr : dueD b l = .tuple [.str "off", eC (nt l i)] := by
        unfold dueD
        rw [res_hit (x := .inl (nt l i)) hI hi (by unfold chk; rw [if_pos (by simpa using hb)])]
        rfl
      simp [ai, on_ok, hb, hr]
  · rintro s1 ⟨hI, x3, x4, x5, rfl⟩
    rw [range_len] at hI
    have a0 : L2.atI l 0 = some (nt l 0) := atI_some (by omega)
    have r0 : dueD b l = .tuple [.str "path", .list ((norm l).map eC)] := by unfold dueD; rw [res_none h0 hI]
    rw [r0]
    unfold norm
    by_cases q : ptLt (nt l (l.length - 1)) (nt l 0) = true
    · simp [atI_end h0, a0, q]
    · simp [atI_end h0, a0, q]
/-! ### the program -/
@[simp] theorem at_ex {c : Str} {ds : List D} {b : MS} : Out.andThen (.ex c ds) b = .ex c ds := rfl
@[simp] theorem loop_ex {c : Str} {ds : List D} {b : MS} : Out.loop (.ex c ds) b = .ex c ds := rfl
@[simp] theorem turn_ex {I : S → Prop} {Q : Out → Prop} {rest : MS} {c : Str} {ds : List D} : DD.Turn I Q rest (.ex c ds) = Q (.ex c ds) := rfl
theorem e_raise {c : Str} {ml : ML} {s : S} {ds : List D} (h : ml s = some ds) (h1 : flatD.go ds = true ∧ ds.all (fun d => (fmtB d).isSome) = true ∧ ds.length ≤ 20) : mRaise c ml s = .ex c ds := by
  unfold mRaise
  rw [h]
  exact if_pos h1
def Bd (m : Nat) (l : List Pt) : Prop := ∀ p ∈ l, p.1.natAbs ≤ m ∧ p.2.natAbs ≤ m
theorem fmt_C {p : Pt} (h : p.1.natAbs < 10 ^ 30 ∧ p.2.natAbs < 10 ^ 30) : (fmtB (eC p)).isSome = true := by
  unfold fmtB eC
  simp only
  rw [if_pos]
  · rfl
  · refine ⟨?_, by simp⟩
    simp [fmtIs, fmtI, h.1, h.2]
theorem fmt_I {i : Int} (h : i.natAbs < 10 ^ 30) : (fmtB (.int i)).isSome = true := by
  unfold fmtB
  simp [fmtI, h]
theorem lesser_ok {m : List Pt} (ne : m ≠ []) : m_from_lesser_end [eP m] = .rt (eP (norm m)) := by
  unfold m_from_lesser_end mFn b_from_lesser_end startS norm
  have hp := List.length_pos_iff.mpr ne
  have a0 : L2.atI m 0 = some (nt m 0) := atI_some (by omega)
  have rv : ∀ s : S, anyAt s[0]? = some (eP m) → mRevT (mVarB 0) s = some (eP m.reverse) := fun s h => by
    show (mVarB 0 s).bind _ = _
    rw [e_varB, h]
    simp [eP]
  by_cases q : ptLt (nt m (m.length - 1)) (nt m 0) = true
  · simp [atI_end ne, a0, q, rv]
  · simp [atI_end ne, a0, q]
theorem board_on (b p : Pt) : m_on_board [eC b, eC p] = .rt (.bool (onB b p)) := by
  unfold m_on_board mFn b_on_board startS onB
  simp [eC]
  by_cases h1 : 0 ≤ p.1 <;> by_cases h2 : p.1 ≤ b.1 <;> by_cases h3 : 0 ≤ p.2 <;> simp [h1, h2, h3]
theorem path_ok {b : Pt} {l : List Pt} {d : D} (hd : d = .list (l.map eC) ∨ d = eP l) (hl : l.length ≤ 100) (hb : Bd 1000 l) : m_normal_path [eC b, d] = pathR b l := by
  have big : (1000 : Nat) < 10 ^ 30 := by decide
  have raise0 : ∀ (s : S), mRaise "NotAPath" (mCons (mC (.int 0)) mNil) s = .ex "NotAPath" [.int 0] := fun s =>
    e_raise (by simp) ⟨by simp [flatD.go, flatD], by simp [fmt_I], by simp⟩
  by_cases h0 : l = []
  · subst h0
    unfold m_normal_path mFn b_normal_path startS
    rcases hd with rfl | rfl
    · simp [raise0, pathR, res]
    · simp [raise0, pathR, res, eP]
  have hp := List.length_pos_iff.mpr h0
  have hlen : fLen [d] = some (.int (l.length : Nat)) := by rcases hd with rfl | rfl <;> simp [eP]
  have hix : ∀ {k : Int} {p : Pt}, L2.atI l k = some p → fIx d (.int k) = some (eC p) := fun {k p} h => by rcases hd with rfl | rfl <;> simp [eP, h]
  have hit : items d = some (l.map eC) := by rcases hd with rfl | rfl <;> rfl
  have hen : ∀ (s : S), s[1]? = some (some (.sh d)) → iEnumD (mCons (mVar 1) mNil) s = some (numD 0 (l.map eC)) := fun s h => by
    unfold iEnumD
    rcases hd with rfl | rfl <;> simp [h, eP]
  unfold m_normal_path mFn b_normal_path startS
  simp [hlen, h0]
  refine for_seq (Q := fun o => o = pathR b l) (ds := numD 0 (l.map eC)) (hen _ (by simp)) (fun i s => (∀ j, j < i → chk b l j = none) ∧ ∃ x3 x4 : Option Sl, s = [some (.sh (eC b)), some (.sh d), some (.ow ((ocs l (i - 1)).map dO)), x3, x4]) ⟨fun j hj => (by omega), none, none, rfl⟩ ?_ ?_
  · rintro i e s1 he ⟨hI, x3, x4, rfl⟩
    obtain ⟨x, hx, rfl⟩ := numD_get he
    rw [Nat.zero_add]
    obtain ⟨p, hp', rfl⟩ := get_map hx
    have hi : i < l.length := (List.getElem?_eq_some_iff.mp hp').1
    rw [nt_at hi] at hp'
    cases hp'
    have hbd := hb _ (nt_in hi)
    have raiseO : ∀ (s : S), anyAt s[4]? = some (eC (nt l i)) → mRaise "OffBoard" (mCons (mVarB 4) mNil) s = .ex "OffBoard" [eC (nt l i)] := fun s h =>
      e_raise (by simp [h]) ⟨by simp [flatD.go], by simp [fmt_C ⟨Nat.lt_of_le_of_lt hbd.1 big, Nat.lt_of_le_of_lt hbd.2 big⟩], by simp⟩
    have raiseN : ∀ (s : S), anyAt s[3]? = some (.int (i : Nat)) → mRaise "NotAPath" (mCons (mVarB 3) mNil) s = .ex "NotAPath" [.int (i : Nat)] := fun s h =>
      e_raise (by simp [h]) ⟨by simp [flatD.go, flatD], by simp [fmt_I (show ((i : Nat) : Int).natAbs < 10 ^ 30 by simp; omega)], by simp⟩
    refine ⟨[some (.sh (eC b)), some (.sh d), some (.ow ((ocs l (i - 1)).map dO)), some (.sh (.int (i : Nat))), some (.sh (eC (nt l i)))], by first | rfl | simp, ?_⟩
    by_cases ho : onB b (nt l i) = true
    · rcases Nat.eq_zero_or_pos i with z | z
      · subst z
        have f0 := fit_ok (ocs l 0)
        have g0 : fitC (ocs l 0) = true := rfl
        rw [g0] at f0
        simp [board_on, ho, f0]
        unfold chk
        simp [ho, g0]
      · obtain ⟨k, rfl⟩ : ∃ k, i = k + 1 := ⟨i - 1, by omega⟩
        have ak : fIx d (.int (k : Int)) = some (eC (nt l k)) := hix (by rw [atI_some (by omega)]; congr 2)
        have kp : (0 : Int) < (k : Int) + 1 := by omega
        have hsz : (ocs l k).length < 100000 := by unfold ocs; simp; omega
        have hap : (ocs l k).map dO ++ [dO (sc (nt l k) (nt l (k + 1)))] = (ocs l (k + 1)).map dO := by rw [ocs_succ, List.map_append]; rfl
        have fk := fit_ok (ocs l (k + 1))
        by_cases hf : fitC (ocs l (k + 1)) = true
        · rw [hf] at fk
          simp [board_on, ho, ak, kp, dir_ok, callV_O, hsz, hap, fk]
          intro j hj
          rcases Nat.lt_or_ge j (k + 1) with q | q
          · exact hI j q
          · have : j = k + 1 := by omega
            subst this
            unfold chk
            rw [if_neg (by simp [ho]), if_neg (by simp [hf])]
        · have hr : pathR b l = .ex "NotAPath" [.int ((k + 1 : Nat) : Int)] := by
            unfold pathR
            rw [res_hit (x := .inr (k + 1)) hI hi (by unfold chk; rw [if_neg (by simp [ho]), if_pos (by simpa using hf)])]
          rw [show fitC (ocs l (k + 1)) = false by simpa using hf] at fk
          simp [board_on, ho, ak, kp, dir_ok, callV_O, hsz, hap, fk, raiseN, hr]
    · have hr : pathR b l = .ex "OffBoard" [eC (nt l i)] := by
        unfold pathR
        rw [res_hit (x := .inl (nt l i)) hI hi (by unfold chk; rw [if_pos (by simpa using ho)])]
      simp [board_on, ho, raiseO, hr]
  · rintro s1 ⟨hI, x3, x4, rfl⟩
    rw [numD_len, List.length_map] at hI
    have hr : pathR b l = .rt (eP (norm l)) := by unfold pathR; rw [res_none h0 hI]
    rw [hr]
    have := lesser_ok h0
    simp [hit, mk_P, this]
/-! ### told, the same, answers -/
theorem is_int (i : Int) : m__law_is_integer [.int i] = .rt (.bool true) := by
  unfold m__law_is_integer mFn b__law_is_integer startS
  simp [isInt, isBool]
theorem is_corner (p : Pt) : m__law_is_corner [eC p] = .rt (.bool true) := by
  unfold m__law_is_corner mFn b__law_is_corner startS
  simp [is_int]
theorem h_int (i : Int) : mh__law_is_integer [.int i] = .rt (.bool true) := by
  unfold mh__law_is_integer mFn bh__law_is_integer startS
  simp [isInt, isBool]
theorem fEqI_int (i j : Int) : fEqI (.int i) (.int j) = some (.bool (decide (i = j))) := by
  first | rfl | simp [fEqI]
theorem h_corner (p : Pt) : mh__law_is_corner [eC p] = .rt (.bool true) := by
  unfold mh__law_is_corner mFn bh__law_is_corner startS
  simp [h_int, fEqI_int]
theorem try2_rt {i j n : Nat} {f : MF} {ml : ML} {nm1 nm2 : Str → List Str} {hit1 hit2 : Str → Bool} {ms1 ms2 : Str → Addr → Addr → MS} {s : S} {ds : List D} {d : D} (h : ml s = some ds) (hn : ds.length = n) (hf : f ds = .rt d) (hd : callR (.rt d) = some d) : mTry2 i j n f ml nm1 hit1 ms1 nm2 hit2 ms2 s = .nx (s.set i (some (.sh d))) := by
  unfold mTry2
  rw [h]
  simp only [if_pos hn, hf, hd]
theorem try2_x1 {i j n : Nat} {f : MF} {ml : ML} {nm1 nm2 : Str → List Str} {hit1 hit2 : Str → Bool} {ms1 ms2 : Str → Addr → Addr → MS} {s : S} {ds fs : List D} {o : Out} {c : Str} (h : ml s = some ds) (hn : ds.length = n) (hf : f ds = .ex c fs) (hh : hit1 c = true) (ho : ∀ a dd, clearO j (ms1 c a dd (s.set j (some (.kd (.exc a dd (fieldsD (nm1 c) fs)))))) = o) : mTry2 i j n f ml nm1 hit1 ms1 nm2 hit2 ms2 s = o := by
  unfold mTry2
  rw [h]
  simp only [if_pos hn, hf, if_pos hh]
  exact uniO_eq ho
theorem try2_x2 {i j n : Nat} {f : MF} {ml : ML} {nm1 nm2 : Str → List Str} {hit1 hit2 : Str → Bool} {ms1 ms2 : Str → Addr → Addr → MS} {s : S} {ds fs : List D} {o : Out} {c : Str} (h : ml s = some ds) (hn : ds.length = n) (hf : f ds = .ex c fs) (h1 : ¬ hit1 c = true) (hh : hit2 c = true) (ho : ∀ a dd, clearO j (ms2 c a dd (s.set j (some (.kd (.exc a dd (fieldsD (nm2 c) fs)))))) = o) : mTry2 i j n f ml nm1 hit1 ms1 nm2 hit2 ms2 s = o := by
  unfold mTry2
  rw [h]
  simp only [if_pos hn, hf, if_neg h1, if_pos hh]
  exact uniO_eq ho
theorem told_ok {b : Pt} {l : List Pt} {d : D} (hd : d = .list (l.map eC) ∨ d = eP l) (hl : l.length ≤ 100) (hb : Bd 1000 l) : m__law_told [eC b, d] = .rt (toldD b l) := by
  have hp := path_ok (b := b) hd hl hb
  have hml : ∀ x : Option Sl, (mCons (mVarB 0) (mCons (mVarB 1) mNil)) [some (.sh (eC b)), some (.sh d), x, none] = some [eC b, d] := fun x => by simp
  unfold pathR at hp
  unfold toldD
  unfold m__law_told mFn b__law_told startS
  simp only [e_seq]
  simp
  cases hr : res b l with
  | none =>
    rw [hr] at hp
    rw [try2_rt (n := 2) (hml _) rfl hp (if_pos (flat_P _))]
    simp
  | some x =>
    rw [hr] at hp
    cases x with
    | inl p =>
      rw [try2_x1 (n := 2) (o := .rt (.tuple [.str "off", eC p])) (hml _) rfl hp (by decide +kernel) fun x d => ?_]
      · rfl
      · have lk : (fieldsD (["corner"] : List Str) [eC p]).lookup ("corner" : Str) = some (eC p) := by simp [fieldsD]
        simp [mIsE, mXf, lk, h_corner, clearO]
    | inr i =>
      rw [try2_x2 (n := 2) (o := .rt (.tuple [.str "fault", .int (i : Nat)])) (hml _) rfl hp (by decide +kernel) (by decide +kernel) fun x d => ?_]
      · rfl
      · have lk : (fieldsD (["index"] : List Str) [.int (i : Nat)]).lookup ("index" : Str) = some (.int (i : Nat)) := by simp [fieldsD]
        simp [mIsE, mXf, lk, h_int, clearO]
theorem is_path {l : List Pt} (hl : l.length ≤ 100) : m__law_is_path [eP l, .list (l.map eC)] = .rt (.bool true) := by
  unfold m__law_is_path mFn b__law_is_path startS
  simp [isTuple, eP]
  rw [mk_P]
  refine for_seq (Q := fun o => o = .rt (.bool true)) (ds := rangeD 0 l.length) (e_rng1 (n := l.length) (by simp) (lim_in (by omega))) (fun _ s => ∃ x, s = [some (.sh (eP l)), some (.sh (.list (l.map eC))), x]) ⟨_, rfl⟩ ?_ ?_
  · rintro i d s1 hd ⟨x, rfl⟩
    obtain ⟨hi, rfl⟩ := range_get0 hd
    refine ⟨_, rfl, ?_⟩
    simp [atI_some (show (0 : Int) ≤ (i : Int) ∧ (i : Int) < (l.length : Int) by omega), is_corner]
  · rintro s1 ⟨x, rfl⟩
    simp
theorem same_ok {b : Pt} {l : List Pt} (hl : l.length ≤ 100) : m__law_same [toldD b l, dueD b l] = .rt (.bool true) := by
  unfold m__law_same mFn b__law_same startS toldD dueD
  have x0 : ∀ p q : D, L2.atI [p, q] 0 = some p := fun _ _ => rfl
  have x1 : ∀ p q : D, L2.atI [p, q] 1 = some q := fun _ _ => rfl
  have op : ¬ ("off" : Str) = "path" := by decide +kernel
  have fp : ¬ ("fault" : Str) = "path" := by decide +kernel
  cases hr : res b l with
  | none =>
    have := is_path (l := norm l) (by
      unfold norm
      split
      · rw [List.length_reverse]; exact hl
      · exact hl)
    simp [x0, x1, this]
  | some x => cases x with
    | inl p => simp [faultD, x0, x1, op]
    | inr i => simp [faultD, x0, x1, fp]
theorem flat_told {b : Pt} {l : List Pt} : flatD (toldD b l) = true := by
  unfold toldD
  cases res b l with
  | none =>
    have := flat_P (norm l)
    simp [flatD, flatD.go, this]
  | some x => cases x with
    | inl p => simp [faultD, flatD, flatD.go]
    | inr i => simp [faultD, flatD, flatD.go]
theorem ne_self (l : List Pt) : fNe (.list (l.map eC)) (.list (l.map eC)) = some (.bool false) := by
  have h := eCs_depth l
  unfold fNe
  rw [if_pos (by simp only [PyData.depth]; omega)]
  simp only [PyData.eqv, eCs_eqv]
  simp
theorem answers_ok {b : Pt} {l : List Pt} {t : Bool} (hl : l.length ≤ 100) (hb : Bd 1000 l) : m__law_answers [eC b, .list (l.map eC), .bool t] = .rt (.bool true) := by
  unfold m__law_answers mFn b__law_answers startS
  have t1 := told_ok (b := b) (.inl rfl) hl hb
  have t2 := told_ok (b := b) (.inr rfl) hl hb
  have d1 := due_ok (b := b) hl
  have s1 := same_ok (b := b) hl
  have c1 : callV (.rt (toldD b l)) = some (toldD b l) := callV_rt flat_told
  have hs : l.length < 100000 := by omega
  have hd : ∀ s : S, s[0]? = some (some (.sh (eC b))) → s[1]? = some (some (.sh (.list (l.map eC)))) → mCall 2 m__law_due (mCons (mVar 0) (mCons (mVar 1) mNil)) s = some (dueD b l) := fun s h0 h1 => by
    unfold mCall
    simp [h0, h1, d1, valOf]
  cases t
  · simp [hd, t1, s1, c1, ne_self, hs]
  · simp [hd, t1, t2, s1, c1, ne_self, hs, mk_P]
/-! ### rows drawn -/
def RowOk (n m : Nat) (o : Out) : Prop := ∃ l : List Pt, o = .rtl (l.map eC) ∧ l.length ≤ n ∧ Bd m l
theorem row_call {n m : Nat} {o : Out} (h : RowOk n m o) : ∃ l : List Pt, (lstOf o).bind okList = some (l.map eC) ∧ l.length ≤ n ∧ Bd m l := by
  obtain ⟨l, rfl, h1, h2⟩ := h
  exact ⟨l, by rw [lst_1, Option.bind_some, ok_1 (flat_Cs l)], h1, h2⟩
theorem on_bd {w h : Int} {p : Pt} (hB : Board 8 w h) (q : onB (w, h) p = true) : p.1.natAbs ≤ 8 ∧ p.2.natAbs ≤ 8 := by
  obtain ⟨b1, b2, b3, b4⟩ := hB
  unfold onB at q
  simp at q
  omega
theorem four_ok {k : Int} {a b c d : D} (h : 0 ≤ k ∧ k < 4) : L2.atI [a, b, c, d] k = some (if k = 0 then a else if k = 1 then b else if k = 2 then c else d) := by
  rcases (show k = 0 ∨ k = 1 ∨ k = 2 ∨ k = 3 by omega) with e | e | e | e <;> rw [e] <;> rfl
theorem fourI {k v1 v2 v3 v4 : Int} (h : 0 ≤ k ∧ k < 4) : ∃ v : Int, L2.atI [PyData.int v1, .int v2, .int v3, .int v4] k = some (.int v) ∧ (v = v1 ∨ v = v2 ∨ v = v3 ∨ v = v4) := by
  rcases (show k = 0 ∨ k = 1 ∨ k = 2 ∨ k = 3 by omega) with e | e | e | e <;> rw [e]
  · exact ⟨v1, rfl, by simp⟩
  · exact ⟨v2, rfl, by simp⟩
  · exact ⟨v3, rfl, by simp⟩
  · exact ⟨v4, rfl, by simp⟩
theorem fourS {k : Int} (h : 0 ≤ k ∧ k < 4) : ∃ x y : Nat, L2.atI [PyData.str ("EN" : Str), .str ("WS" : Str), .str ("ES" : Str), .str ("WN" : Str)] k = some (.str (txt [x, y])) := by
  rw [sE2, sW2, sE3, sW3]
  rcases (show k = 0 ∨ k = 1 ∨ k = 2 ∨ k = 3 by omega) with e | e | e | e <;> rw [e] <;> exact ⟨_, _, rfl⟩
theorem ix_txt {cs : List Nat} {k : Int} {c : Nat} (hl : cs.length ≤ 100) (h : L2.atI cs k = some c) : fIx (.str (txt cs)) (.int k) = some (.str (txt [c])) := by
  have e : fIx (.str (txt cs)) (.int k) = if (txt cs).length ≤ 100000 then (L2.atI (txt cs).cps.toList k).map fun c => .str ⟨#[c]⟩ else none := rfl
  rw [e, if_pos (by rw [txt_len]; omega)]
  show (L2.atI cs.toArray.toList k).map _ = _
  rw [List.toList_toArray, h]
  rfl
theorem ix_two {x y : Nat} {k : Int} (h : 0 ≤ k ∧ k < 2) : ∃ c, fIx (.str (txt [x, y])) (.int k) = some (.str (txt [c])) := by
  rcases (show k = 0 ∨ k = 1 by omega) with e | e <;> rw [e]
  · exact ⟨x, ix_txt (by simp) rfl⟩
  · exact ⟨y, ix_txt (by simp) rfl⟩
theorem bd_snoc {m : Nat} {l : List Pt} {p : Pt} (h : Bd m l) (hp : p.1.natAbs ≤ m ∧ p.2.natAbs ≤ m) : Bd m (l ++ [p]) := fun q hq => by
  rcases List.mem_append.mp hq with z | z
  · exact h q z
  · rw [List.mem_singleton.mp z]; exact hp
theorem bd_app {m : Nat} {l k : List Pt} (h : Bd m l) (hk : Bd m k) : Bd m (l ++ k) := fun q hq => (List.mem_append.mp hq).elim (h q) (hk q)
theorem bd_le {m n : Nat} {l : List Pt} (h : Bd m l) (e : m ≤ n) : Bd n l := fun q hq => ⟨Nat.le_trans (h q hq).1 e, Nat.le_trans (h q hq).2 e⟩
theorem bd_rev {m : Nat} {l : List Pt} (h : Bd m l) : Bd m l.reverse := fun q hq => h q (List.mem_reverse.mp hq)
theorem bd_cut {m : Nat} {l : List Pt} {lo hi : Option Int} (h : Bd m l) : Bd m (cutD l lo hi) ∧ (cutD l lo hi).length ≤ l.length := by
  unfold cutD
  refine ⟨fun q hq => h q (List.mem_of_mem_drop (List.mem_of_mem_take hq)), ?_⟩
  rw [List.length_take, List.length_drop]
  omega
/-- while a row grows -/
def GR (m : Nat) (hd tl : S) (n i : Nat) (s : S) : Prop := ∃ (l : List Pt) (x : Pt), s = hd ++ some (.ow (l.map eC ++ [eC x])) :: tl ∧ l.length + 1 ≤ n + i ∧ Bd m (l ++ [x])
theorem gr_keep {m n i : Nat} {hd tl : S} {l : List Pt} {x : Pt} (h : l.length + 1 ≤ n + i) (hm : Bd m (l ++ [x])) : GR m hd tl n (i + 1) (hd ++ some (.ow (l.map eC ++ [eC x])) :: tl) := ⟨l, x, rfl, by omega, hm⟩
theorem gr_more {m n i : Nat} {hd tl : S} {l : List Pt} {x y : Pt} (h : l.length + 1 ≤ n + i) (hm : Bd m (l ++ [x])) (hy : y.1.natAbs ≤ m ∧ y.2.natAbs ≤ m) : GR m hd tl n (i + 1) (hd ++ some (.ow (l.map eC ++ [eC x, eC y])) :: tl) := ⟨l ++ [x], y, by simp, by simp; omega, bd_snoc hm hy⟩
theorem walked_ok (c c2 w h : Int) (hB : Board 8 w h) : RowOk 17 8 (m__law_walked [eC (w, h), .int c, .int c2]) := by
  have hB' := hB
  obtain ⟨b1, b2, b3, b4⟩ := hB'
  obtain ⟨f, hd, hb⟩ := lst_draws (c := c) (sizes := [w + 1, h + 1, 4, 17, 2]) (by simp; omega) (by simp)
  obtain ⟨g, hd2, hb2⟩ := draws2 c2 16 (by decide)
  have g0 := hb 0 _ rfl
  have g1 := hb 1 _ rfl
  have g2 := hb 2 _ rfl
  have g3 := hb 3 _ rfl
  simp at hd hd2
  obtain ⟨x, y, hL⟩ := fourS g2
  obtain ⟨vx, hx, ex⟩ := fourI (v1 := 0) (v2 := w) (v3 := 0) (v4 := w) g2
  obtain ⟨vy, hy, ey⟩ := fourI (v1 := 0) (v2 := h) (v3 := h) (v4 := 0) g2
  have main : ∀ p0 : Pt, p0.1.natAbs ≤ 8 ∧ p0.2.natAbs ≤ 8 → RowOk 17 8 (Out.andThen ((mForS (iRange1 (mCons (m2 fIx (mVarB 3) (mC (.int 3))) mNil)) (gN 7)
      (mSeq (mAsg 8 (mCallB 2 m__law_stepped (mCons (m2 fIx (mVarB 5) (m1 fNeg (mC (.int 1)))) (mCons (m2 fIx (mVarB 4) (m2 fIx (mVarB 6) (mVarB 7))) mNil))))
      (mIfS (mT (mCallB 2 m__law_on_board (mCons (mVarB 0) (mCons (mVarB 8) mNil))))
      (mApp 5 (mVar 8))
      mNext))) [some (.sh (eC (w, h))), some (.sh (.int c)), some (.sh (.int c2)), some (.ow (dl f 5)), some (.sh (.str (txt [x, y]))), some (.ow [eC p0]), some (.ow (dl g 16)), none, none]) (mRetO 5)) := by
    intro p0 bp
    refine for_seq (Q := RowOk 17 8) (ds := rangeD 0 (f 3).toNat) (e_rng1 (n := f 3) (by simp [atI_dl]) (lim_in (by omega))) (fun i s => ∃ x7 x8 : Option Sl, GR 8 [some (.sh (eC (w, h))), some (.sh (.int c)), some (.sh (.int c2)), some (.ow (dl f 5)), some (.sh (.str (txt [x, y])))] [some (.ow (dl g 16)), x7, x8] 1 i s) ⟨none, none, [], p0, rfl, by simp, bd_snoc (fun _ z => by cases z) bp⟩ ?_ ?_
    · rintro i d s1 hd' ⟨x7, x8, l, z, rfl, hl, hm⟩
      obtain ⟨hi, rfl⟩ := range_get0 hd'
      have hix : L2.atI (dl g 16) (i : Int) = some (.int (g i)) := by
        rw [atI_dl (by omega)]; rfl
      obtain ⟨lc, hlc⟩ := ix_two (x := x) (y := y) (hb2 i (by omega))
      have hlast : L2.atI (l.map eC ++ [eC z]) (-1) = some (eC z) := atI_last _ _
      have hs : l.length + 1 < 100000 := by omega
      refine ⟨_, rfl, ?_⟩
      simp [hix, hlc, hlast, stepped_ok, on_ok, hs]
      by_cases hbq : onB (w, h) (stp z (txt [lc])) = true
      · simp [hbq]; exact ⟨_, _, gr_more (hd := [_, _, _, _, _]) hl hm (on_bd hB hbq)⟩
      · simp [hbq]; exact ⟨_, _, gr_keep (hd := [_, _, _, _, _]) hl hm⟩
    · rintro s1 ⟨x7, x8, l, z, rfl, hl, hm⟩
      rw [range_len] at hl
      simp
      exact ⟨l ++ [z], by simp, by simp; omega, hm⟩
  unfold m__law_walked mFn b__law_walked startS
  have bv : vx.natAbs ≤ 8 ∧ vy.natAbs ≤ 8 := by
    rcases ex with e | e | e | e <;> rcases ey with e' | e' | e' | e' <;> omega
  by_cases h4 : f 4 = 1
  · simp [hd, hd2, atI_dl, mk_C, hL, hx, hy, h4]
    exact main (vx, vy) bv
  · simp [hd, hd2, atI_dl, mk_C, hL, h4]
    exact main (f 0, f 1) (by simp only; omega)
theorem any_ok (c w h : Int) (hB : Board 8 w h) : RowOk 17 20 (m__law_any_row [eC (w, h), .int c]) := by
  have hB' := hB
  obtain ⟨b1, b2, b3, b4⟩ := hB'
  obtain ⟨f, hd, hb⟩ := lst_draws (c := c) (sizes := [18] ++ (List.replicate 17 [w + 7, h + 7]).flatten) (by
    intro z hz
    simp at hz
    omega) (by simp)
  have g0 := hb 0 _ rfl
  have hbo : ∀ i : Nat, i < 17 → (0 ≤ f (2 * i + 1) ∧ f (2 * i + 1) < w + 7) ∧ (0 ≤ f (2 * i + 2) ∧ f (2 * i + 2) < h + 7) := by
    intro i hi
    rcases (show i = 0 ∨ i = 1 ∨ i = 2 ∨ i = 3 ∨ i = 4 ∨ i = 5 ∨ i = 6 ∨ i = 7 ∨ i = 8 ∨ i = 9 ∨ i = 10 ∨ i = 11 ∨ i = 12 ∨ i = 13 ∨ i = 14 ∨ i = 15 ∨ i = 16 by omega) with e | e | e | e | e | e | e | e | e | e | e | e | e | e | e | e | e <;> subst e <;> exact ⟨hb _ _ rfl, hb _ _ rfl⟩
  simp at hd
  unfold m__law_any_row mFn b__law_any_row startS
  have hc : mLc (iRange1 (mCons (m2 fIx (mVarB 2) (mC (.int 0))) mNil)) (gN 3) mYes (mTup (mCons (m2 fSub (m2 fIx (mVarB 2) (m2 fAdd (m2 fMul (mC (.int 2)) (mVarB 3)) (mC (.int 1)))) (mC (.int 3))) (mCons (m2 fSub (m2 fIx (mVarB 2) (m2 fAdd (m2 fMul (mC (.int 2)) (mVarB 3)) (mC (.int 2)))) (mC (.int 3))) mNil))) [3]
      [some (.sh (eC (w, h))), some (.sh (.int c)), some (.ow (dl f 35)), none] = some (((List.range (f 0).toNat).map fun i => ((f (2 * i + 1) - 3, f (2 * i + 2) - 3) : Pt)).map eC) := by
    have := lc_of (mi := iRange1 (mCons (m2 fIx (mVarB 2) (mC (.int 0))) mNil)) (g := gN 3) (mt := mYes) (me := (mTup (mCons (m2 fSub (m2 fIx (mVarB 2) (m2 fAdd (m2 fMul (mC (.int 2)) (mVarB 3)) (mC (.int 1)))) (mC (.int 3))) (mCons (m2 fSub (m2 fIx (mVarB 2) (m2 fAdd (m2 fMul (mC (.int 2)) (mVarB 3)) (mC (.int 2)))) (mC (.int 3))) mNil)))) (vs := [3])
      (s := [some (.sh (eC (w, h))), some (.sh (.int c)), some (.ow (dl f 35)), none]) (xs := List.range (f 0).toNat) (e := fun i : Nat => .int (i : Int)) (p := fun _ => true) (f := fun i : Nat => eC (f (2 * i + 1) - 3, f (2 * i + 2) - 3)) rfl ?_ (by simp; omega) fun i hi => ?_
    · rw [this, List.filter_eq_self.mpr (fun _ _ => rfl), List.map_map]
      rfl
    · rw [e_rng1 (n := f 0) (by simp [atI_dl]) (lim_in (by omega)), rangeD_map]
    · have hi' := List.mem_range.mp hi
      refine ⟨_, rfl, rfl, fun _ => ?_⟩
      have x1 : L2.atI (dl f 35) (2 * (i : Int) + 1) = some (.int (f (2 * i + 1))) := by rw [atI_dl (by omega)]; congr 3
      have x2 : L2.atI (dl f 35) (2 * (i : Int) + 2) = some (.int (f (2 * i + 2))) := by rw [atI_dl (by omega)]; congr 3
      simp [wipeS, f_mul, x1, x2, mk_C]
  simp [hd, hc]
  refine ⟨(List.range (f 0).toNat).map fun i => ((f (2 * i + 1) - 3, f (2 * i + 2) - 3) : Pt), by rw [List.map_map], by simp; omega, fun p hp => ?_⟩
  obtain ⟨i, hi, rfl⟩ := List.mem_map.mp hp
  have hi' := List.mem_range.mp hi
  have := hbo i (by omega)
  simp only
  omega
theorem sEWNS : ("EWNS" : Str) = txt [69, 87, 78, 83] := by decide +kernel
theorem stp_bd {m : Nat} {p : Pt} {x : Str} (h : p.1.natAbs ≤ m ∧ p.2.natAbs ≤ m) : (stp p x).1.natAbs ≤ m + 1 ∧ (stp p x).2.natAbs ≤ m + 1 := by
  unfold stp
  split
  · simp only; omega
  · split
    · simp only; omega
    · split <;> (simp only; omega)
def sp_rest : MS := (mSeq (mAsgL 7 (iSeq (mVarB 1)))
  (mSeq (mForS (iRange1 (mCons (m2 fAdd (m2 fIx (mVarB 3) (mC (.int 7))) (mC (.int 1))) mNil)) (gN 8)
  (mApp 7 (mCallB 2 m__law_stepped (mCons (m2 fIx (mVarB 7) (m1 fNeg (mC (.int 1)))) (mCons (mVarB 6) mNil)))))
  (mRetO 7)))
def GLo (m n : Nat) (hd tl : S) (i : Nat) (s : S) : Prop := ∃ (k : List Pt) (y : Pt) (x8 : Option Sl), s = hd ++ some (.ow (k.map eC ++ [eC y])) :: x8 :: tl ∧ k.length + 1 ≤ n + i ∧ Bd (m + i) (k ++ [y])
theorem glo_more {m n i : Nat} {hd tl : S} {k : List Pt} {y : Pt} {lc : Str} {x8 : Option Sl} (hk : k.length + 1 ≤ n + i) (hy : Bd (m + i) (k ++ [y])) : GLo m n hd tl (i + 1) (hd ++ some (.ow (k.map eC ++ [eC y, eC (stp y lc)])) :: x8 :: tl) :=
  ⟨k ++ [y], stp y lc, x8, by simp, by simp; omega, bd_snoc (bd_le hy (by omega)) (stp_bd (hy y (by simp)))⟩
theorem longer_ok {b : Pt} {c : Int} {l : List Pt} {f : Nat → Int} {m n : Nat} {lc : Str} {s4 s5 s9 : Option Sl} (h0 : l ≠ []) (hl : l.length ≤ n) (hn : n ≤ 1000) (hm : Bd m l) (h7 : 0 ≤ f 7 ∧ f 7 < 4) :
    RowOk (2 * n + 5) (m + 20) (sp_rest [some (.sh (eC b)), some (.sh (.list (l.map eC))), some (.sh (.int c)), some (.ow (dl f 8)), s4, s5, some (.sh (.str lc)), none, none, s9, none]) := by
  obtain ⟨l', x, rfl⟩ : ∃ l' x, l = l' ++ [x] := ⟨l.dropLast, l.getLast h0, (List.dropLast_concat_getLast h0).symm⟩
  unfold sp_rest
  rw [e_seq]
  simp only [e_asgL, e_iSeq, e_varB, List.getElem?_cons_succ, List.getElem?_cons_zero, anyAt_1, Option.bind_some]
  simp
  refine for_seq (Q := RowOk (2 * n + 5) (m + 20)) (ds := rangeD 0 (f 7 + 1).toNat) (e_rng1 (n := f 7 + 1) (by simp [atI_dl]) (lim_in (by omega))) (GLo m n [some (.sh (eC b)), some (.sh (.list (l'.map eC ++ [eC x]))), some (.sh (.int c)), some (.ow (dl f 8)), s4, s5, some (.sh (.str lc))] [s9, none]) ⟨l', x, none, rfl, by simp at hl; omega, hm⟩ ?_ ?_
  · rintro i d s1 hd' ⟨k, y, x8, rfl, hk, hy⟩
    obtain ⟨hi, rfl⟩ := range_get0 hd'
    have hlast : L2.atI (k.map eC ++ [eC y]) (-1) = some (eC y) := atI_last _ _
    have hs : k.length + 1 < 100000 := by omega
    refine ⟨_, rfl, ?_⟩
    simp [hlast, stepped_ok, hs]
    exact glo_more (hd := [_, _, _, _, _, _, _]) hk hy
  · rintro s1 ⟨k, y, x8, rfl, hk, hy⟩
    rw [range_len] at hk hy
    simp
    exact ⟨k ++ [y], by simp, by simp; omega, bd_le hy (by omega)⟩
theorem spoilt_ok {l : List Pt} {m n : Nat} (c w h : Int) (hB : Board 8 w h) (hl : l.length ≤ n) (hn : n ≤ 1000) (hm : Bd m l) (hm1 : 12 ≤ m) : RowOk (2 * n + 5) (m + 20) (m__law_spoilt [eC (w, h), .list (l.map eC), .int c]) := by
  have hB' := hB
  obtain ⟨b1, b2, b3, b4⟩ := hB'
  obtain ⟨f, hd, hb⟩ := lst_draws (c := c) (sizes := [12, 40, 5, 5, w + 7, h + 7, 4, 4]) (by simp; omega) (by simp)
  have g0 := hb 0 _ rfl
  have g2 := hb 2 _ rfl
  have g3 := hb 3 _ rfl
  have g4 := hb 4 _ rfl
  have g5 := hb 5 _ rfl
  have g6 := hb 6 _ rfl
  have g7 := hb 7 _ rfl
  simp at hd
  unfold m__law_spoilt mFn b__law_spoilt startS
  have nil : RowOk (2 * n + 5) (m + 20) (.rtl []) := ⟨[], rfl, by simp, fun _ z => by cases z⟩
  by_cases h0 : l = []
  · subst h0
    simp [hd, atI_dl]
    exact nil
  have hp := List.length_pos_iff.mpr h0
  by_cases f0 : f 0 = 0
  · simp [hd, atI_dl, h0, f0]
    exact nil
  obtain ⟨k, hk, ek⟩ : ∃ k : Nat, k < l.length ∧ f 1 % (l.length : Int) = (k : Int) := by
    have := Int.emod_nonneg (f 1) (b := (l.length : Int)) (by omega)
    have := Int.emod_lt_of_pos (f 1) (b := (l.length : Int)) (by omega)
    exact ⟨(f 1 % (l.length : Int)).toNat, by omega, by omega⟩
  have ak : L2.atI l (k : Int) = some (nt l k) := atI_some (by omega)
  have bk := hm _ (nt_in hk)
  obtain ⟨lc, hlc⟩ : ∃ x, fIx (.str ("EWNS" : Str)) (.int (f 6)) = some (.str (txt [x])) := by
    rw [sEWNS]
    rcases (show f 6 = 0 ∨ f 6 = 1 ∨ f 6 = 2 ∨ f 6 = 3 by omega) with e | e | e | e <;> rw [e] <;> exact ⟨_, ix_txt (by simp) rfl⟩
  have cut : ∀ lo hi : Option Int, Bd m (cutD l lo hi) ∧ (cutD l lo hi).length ≤ l.length := fun lo hi => bd_cut hm
  have fin : ∀ r : List Pt, r.length ≤ 2 * n + 5 → Bd (m + 20) r → RowOk (2 * n + 5) (m + 20) (.rtl (r.map eC)) := fun r h1 h2 => ⟨r, rfl, h1, h2⟩
  have c1 := cut none (some (k : Int))
  have c2 := cut (some (k : Int)) none
  have c3 := cut (some ((k : Int) + 1)) none
  have c4 := cut none (some (-1))
  have hc : mLc (iSeq (mL (mCutL (mVarB 1) (oSome (mVarB 4)) oNone))) (gN 10) mYes (mTup (mCons (m2 fSub (m2 fAdd (m2 fIx (mVarB 10) (mC (.int 0))) (m2 fIx (mVarB 3) (mC (.int 2)))) (mC (.int 2))) (mCons (m2 fSub (m2 fAdd (m2 fIx (mVarB 10) (mC (.int 1))) (m2 fIx (mVarB 3) (mC (.int 3)))) (mC (.int 2))) mNil))) [10]
      [some (.sh (eC (w, h))), some (.sh (.list (l.map eC))), some (.sh (.int c)), some (.ow (dl f 8)), some (.sh (.int k)), some (.sh (eC (nt l k))), some (.sh (.str (txt [lc]))), none, none, none, none] = some (((cutD l (some (k : Int)) none).map fun p => ((p.1 + f 2 - 2, p.2 + f 3 - 2) : Pt)).map eC) := by
    have := lc_of (mi := iSeq (mL (mCutL (mVarB 1) (oSome (mVarB 4)) oNone))) (g := gN 10) (mt := mYes) (me := mTup (mCons (m2 fSub (m2 fAdd (m2 fIx (mVarB 10) (mC (.int 0))) (m2 fIx (mVarB 3) (mC (.int 2)))) (mC (.int 2))) (mCons (m2 fSub (m2 fAdd (m2 fIx (mVarB 10) (mC (.int 1))) (m2 fIx (mVarB 3) (mC (.int 3)))) (mC (.int 2))) mNil))) (vs := [10])
      (s := [some (.sh (eC (w, h))), some (.sh (.list (l.map eC))), some (.sh (.int c)), some (.ow (dl f 8)), some (.sh (.int k)), some (.sh (eC (nt l k))), some (.sh (.str (txt [lc]))), none, none, none, none])
      (xs := cutD l (some (k : Int)) none) (e := eC) (p := fun _ => true) (f := fun p => eC (p.1 + f 2 - 2, p.2 + f 3 - 2)) rfl (by simp [cut_map]) (by have := c2.2; omega) fun p hp => ⟨_, rfl, rfl, fun _ => by simp [wipeS, atI_dl, mk_C]⟩
    rw [this, List.filter_eq_self.mpr (fun _ _ => rfl), List.map_map]
    rfl
  generalize hA : cutD l none (some (k : Int)) = A at c1
  generalize hB2 : cutD l (some (k : Int)) none = B at c2 hc
  generalize hC : cutD l (some ((k : Int) + 1)) none = C at c3
  generalize hD : cutD l none (some (-1)) = E at c4
  have q0 : A.length ≤ 1000 ∧ B.length ≤ 1000 ∧ C.length ≤ 1000 ∧ E.length ≤ 1000 ∧ l.length ≤ 1000 := by omega
  obtain ⟨qA, qB, qC, qE, qL⟩ := q0
  have n1 : A.length + B.length ≤ 100000 := by omega
  have n2 : A.length ≤ 99999 := by omega
  have n3 : A.length ≤ 99998 := by omega
  have n4 : A.length + 1 + C.length ≤ 100000 := by omega
  have n5 : A.length + 1 + B.length ≤ 100000 := by omega
  have n6 : A.length + C.length ≤ 100000 := by omega
  have n7 : A.length + 2 + B.length ≤ 100000 := by omega
  have n8 : l.length + E.length ≤ 100000 := by omega
  have bA := bd_le c1.1 (show m ≤ m + 20 by omega)
  have bB := bd_le c2.1 (show m ≤ m + 20 by omega)
  have bC := bd_le c3.1 (show m ≤ m + 20 by omega)
  have bE := bd_le c4.1 (show m ≤ m + 20 by omega)
  have one : ∀ {p : Pt}, (p.1.natAbs ≤ m + 20 ∧ p.2.natAbs ≤ m + 20) → Bd (m + 20) [p] := fun {p} h q hq => by rw [List.mem_singleton.mp hq]; exact h
  have three : ∀ {X Y : List Pt} {p : Pt}, Bd (m + 20) X → (p.1.natAbs ≤ m + 20 ∧ p.2.natAbs ≤ m + 20) → Bd (m + 20) Y → X.length ≤ l.length → Y.length ≤ l.length → RowOk (2 * n + 5) (m + 20) (.rtl (X.map eC ++ eC p :: Y.map eC)) := fun {X Y p} h1 h2 h3 h4 h5 =>
    ⟨X ++ [p] ++ Y, by simp, by simp; omega, bd_app (bd_app h1 (one h2)) h3⟩
  have four : ∀ {X Y : List Pt} {p q : Pt}, Bd (m + 20) X → (p.1.natAbs ≤ m + 20 ∧ p.2.natAbs ≤ m + 20) → (q.1.natAbs ≤ m + 20 ∧ q.2.natAbs ≤ m + 20) → Bd (m + 20) Y → X.length ≤ l.length → Y.length ≤ l.length → RowOk (2 * n + 5) (m + 20) (.rtl (X.map eC ++ eC p :: eC q :: Y.map eC)) := fun {X Y p q} h1 h2 h2' h3 h4 h5 =>
    ⟨X ++ [p] ++ [q] ++ Y, by simp, by simp; omega, bd_app (bd_app (bd_app h1 (one h2)) (one h2')) h3⟩
  by_cases f2 : f 0 ≤ 2
  · simp [hd, atI_dl, h0, f0, f_mod, hp, ek, ak, hlc, f2, cut_map, hA, hc, n1]
    refine ⟨A ++ B.map fun p => ((p.1 + f 2 - 2, p.2 + f 3 - 2) : Pt), by simp, by simp; omega, bd_app bA fun p hp => ?_⟩
    obtain ⟨q, hq, rfl⟩ := List.mem_map.mp hp
    have := c2.1 q hq
    simp only
    omega
  by_cases f3 : f 0 = 3
  · simp [hd, atI_dl, h0, f0, f_mod, hp, ek, ak, hlc, f3, cut_map, hA, hC, n2, n4, mk_C]
    exact three bA (by simp only; omega) bC c1.2 c3.2
  by_cases f4 : f 0 = 4
  · simp [hd, atI_dl, h0, f0, f_mod, hp, ek, ak, hlc, f4, cut_map, hA, hB2, n2, n5, mk_C]
    exact three bA (by simp only; omega) bB c1.2 c2.2
  by_cases f6 : f 0 ≤ 6
  · have lg := longer_ok (b := (w, h)) (c := c) (f := f) (lc := txt [lc]) (s4 := some (.sh (.int k))) (s5 := some (.sh (eC (nt l k)))) (s9 := none) h0 hl hn hm g7
    have rt : ∀ {o : Out} {rest : MS}, RowOk (2 * n + 5) (m + 20) o → RowOk (2 * n + 5) (m + 20) (Out.andThen o rest) := fun {o rest} ⟨r, e, h⟩ => by rw [e]; exact ⟨r, rfl, h⟩
    unfold sp_rest at lg
    simp at lg
    simp [hd, atI_dl, h0, f0, f_mod, hp, ek, ak, hlc, f2, f3, f4, f6]
    exact rt lg
  by_cases f7 : f 0 = 7
  · simp [hd, atI_dl, h0, f0, f_mod, hp, ek, ak, hlc, f7, cut_map, hD, n8]
    exact ⟨l ++ E.reverse, by simp, by simp; omega, bd_app (bd_le hm (by omega)) (bd_rev bE)⟩
  by_cases f8 : f 0 = 8
  · simp [hd, atI_dl, h0, f0, f_mod, hp, ek, ak, hlc, f8, cut_map, hA, hC, n6]
    exact ⟨A ++ C, by simp, by simp; omega, bd_app bA bC⟩
  by_cases f9 : f 0 = 9
  · simp [hd, atI_dl, h0, f0, f_mod, hp, ek, ak, hlc, f9, cut_map, hA, hB2, n2, n5]
    exact three bA (by omega) bB c1.2 c2.2
  by_cases f10 : f 0 = 10
  · simp [hd, atI_dl, h0, f0, f_mod, hp, ek, ak, hlc, f10, cut_map, hA, hB2, n3, n7, stepped_ok]
    exact four bA (by omega) (by have := stp_bd (x := txt [lc]) bk; omega) bB c1.2 c2.2
  have f11 : f 0 = 11 := by omega
  obtain ⟨q, hq, bq⟩ : ∃ q : Pt, L2.atI [eC (w + 1 + f 7, (nt l k).2), eC (-1 - f 7, (nt l k).2), eC ((nt l k).1, h + 1 + f 7), eC ((nt l k).1, -1 - f 7)] (f 6) = some (eC q) ∧ (q.1.natAbs ≤ m + 20 ∧ q.2.natAbs ≤ m + 20) := by
    rcases (show f 6 = 0 ∨ f 6 = 1 ∨ f 6 = 2 ∨ f 6 = 3 by omega) with e | e | e | e <;> rw [e]
    · exact ⟨_, rfl, by simp only; omega⟩
    · exact ⟨_, rfl, by simp only; omega⟩
    · exact ⟨_, rfl, by simp only; omega⟩
    · exact ⟨_, rfl, by simp only; omega⟩
  simp [hd, atI_dl, h0, f0, f_mod, hp, ek, ak, hlc, f11, cut_map, hA, hC, n2, n4, mk_C, hq]
  exact three bA bq bC c1.2 c3.2
noncomputable def law_5 : MS :=
  (mSeq (mShare 4 (mForS (iSeq (mVar 4)) (gN 7)
  (mSeq (mAsg 8 (mCallB 2 m_on_board (mCons (mVarB 1) (mCons (mVarB 7) mNil))))
  (mIfS (mOr (mNot (mT (mIsi isBool (mVarB 8)))) (mT (m2 fNe (mVarB 8) (mCallB 2 m__law_on_board (mCons (mVarB 1) (mCons (mVarB 7) mNil))))))
  (mRet (mC (.bool false)))
  mNext))))
  (mRet (mC (.bool true))))
noncomputable def law_4 : MS :=
  (mSeq (mForS (iSeq (mL (mLst (mCons (m1 fNeg (mC (.int 1))) (mCons (mC (.int 0)) (mCons (m2 fIx (mVarB 1) (mC (.int 0))) (mCons (m2 fAdd (m2 fIx (mVarB 1) (mC (.int 0))) (mC (.int 1))) mNil))))))) (gN 5)
  (mForS (iSeq (mL (mLst (mCons (m1 fNeg (mC (.int 1))) (mCons (mC (.int 0)) (mCons (m2 fIx (mVarB 1) (mC (.int 1))) (mCons (m2 fAdd (m2 fIx (mVarB 1) (mC (.int 1))) (mC (.int 1))) mNil))))))) (gN 6)
  (mApp 4 (mTup (mCons (mVar 5) (mCons (mVar 6) mNil)))))) law_5)
noncomputable def law_3 : MS :=
  (mSeq (mIfS (mOr (mNot (mT (mCallB 3 m__law_answers (mCons (mVarB 1) (mCons (mVarB 2) (mCons (m2 fEq (m2 fIx (mVarB 3) (mC (.int 3))) (mC (.int 1))) mNil)))))) (mNot (mT (mCallB 3 m__law_answers (mCons (mVarB 1) (mCons (mL (mRevL (mVarB 2))) (mCons (m2 fEq (m2 fIx (mVarB 3) (mC (.int 3))) (mC (.int 1))) mNil)))))))
  (mRet (mC (.bool false)))
  mNext)
  (mSeq (mAsgL 4 (iSeq (mVarB 2))) law_4))
def inner : MS := (mForS (iSeq (mL (mLst (mCons (m1 fNeg (mC (.int 1))) (mCons (mC (.int 0)) (mCons (m2 fIx (mVarB 1) (mC (.int 1))) (mCons (m2 fAdd (m2 fIx (mVarB 1) (mC (.int 1))) (mC (.int 1))) mNil))))))) (gN 6)
  (mApp 4 (mTup (mCons (mVar 5) (mCons (mVar 6) mNil)))))
theorem inner_ok {x0 x2 x3 x6 x7 x8 : Option Sl} {w h x : Int} {m : List Pt} (hm : m.length ≤ 1000) : inner [x0, some (.sh (eC (w, h))), x2, x3, some (.ow (m.map eC)), some (.sh (.int x)), x6, x7, x8] = .nx [x0, some (.sh (eC (w, h))), x2, x3, some (.ow ((m ++ [(x, -1), (x, 0), (x, h), (x, h + 1)]).map eC)), some (.sh (.int x)), some (.sh (.int (h + 1))), x7, x8] := by
  unfold inner
  have q0 : m.length < 100000 := by omega
  have q1 : m.length + 1 < 100000 := by omega
  have q2 : m.length + 1 + 1 < 100000 := by omega
  have q3 : m.length + 1 + 1 + 1 < 100000 := by omega
  have q1' : m.length < 99999 := by omega
  have q2' : m.length < 99998 := by omega
  have q3' : m.length < 99997 := by omega
  have q4 : m.length + 2 < 100000 := by omega
  have q5 : m.length + 3 < 100000 := by omega
  simp [e_forS, e_for1, e_for0, mk_C, q0, q1, q2, q3, q1', q2', q3', q4, q5]
theorem law5_ok {ns : List Int} {w h : Int} {m : List Pt} {x2 x3 x5 x6 : Option Sl} (hm : m.length ≤ 10000) : law_5 [some (.sh (.list (ns.map .int))), some (.sh (eC (w, h))), x2, x3, some (.ow (m.map eC)), x5, x6, none, none] = .rt (.bool true) := by
  unfold law_5
  simp
  refine for_seq (Q := fun o => o = .rt (.bool true)) (ds := m.map eC) (by simp) (fun _ s => ∃ x7 x8, s = [some (.sh (.list (ns.map .int))), some (.sh (eC (w, h))), x2, x3, some (.sh (.list (m.map eC))), x5, x6, x7, x8]) ⟨_, _, rfl⟩ ?_ ?_
  · rintro i d s1 hd ⟨x7, x8, rfl⟩
    obtain ⟨p, hp, rfl⟩ := get_map hd
    refine ⟨_, rfl, ?_⟩
    simp [board_on, on_ok, isBool]
  · rintro s1 ⟨x7, x8, rfl⟩
    simp
theorem law4_ok {ns : List Int} {w h : Int} {m : List Pt} {x2 x3 : Option Sl} (hm : m.length ≤ 500) : law_4 [some (.sh (.list (ns.map .int))), some (.sh (eC (w, h))), x2, x3, some (.ow (m.map eC)), none, none, none, none] = .rt (.bool true) := by
  have e : law_4 = mSeq (mForS (iSeq (mL (mLst (mCons (m1 fNeg (mC (.int 1))) (mCons (mC (.int 0)) (mCons (m2 fIx (mVarB 1) (mC (.int 0))) (mCons (m2 fAdd (m2 fIx (mVarB 1) (mC (.int 0))) (mC (.int 1))) mNil))))))) (gN 5) inner) law_5 := rfl
  have l4 : ∀ (k : List Pt) (x : Int), (k ++ [(x, -1), (x, 0), (x, h), (x, h + 1)]).length = k.length + 4 := fun k x => by simp
  rw [e]
  simp only [e_seq, e_forS]
  have it : (iSeq (mL (mLst (mCons (m1 fNeg (mC (.int 1))) (mCons (mC (.int 0)) (mCons (m2 fIx (mVarB 1) (mC (.int 0))) (mCons (m2 fAdd (m2 fIx (mVarB 1) (mC (.int 0))) (mC (.int 1))) mNil)))))))
      [some (.sh (.list (ns.map .int))), some (.sh (eC (w, h))), x2, x3, some (.ow (m.map eC)), none, none, none, none] = some [.int (-1), .int 0, .int w, .int (w + 1)] := by simp
  rw [it]
  have st : ∀ (x : Int) (ds : List D) (k : List Pt) (x5 x6 : Option Sl), k.length ≤ 1000 → mFor (gN 5) inner (.int x :: ds) [some (.sh (.list (ns.map .int))), some (.sh (eC (w, h))), x2, x3, some (.ow (k.map eC)), x5, x6, none, none]
      = mFor (gN 5) inner ds [some (.sh (.list (ns.map .int))), some (.sh (eC (w, h))), x2, x3, some (.ow ((k ++ [(x, -1), (x, 0), (x, h), (x, h + 1)]).map eC)), some (.sh (.int x)), some (.sh (.int (h + 1))), none, none] := fun x ds k x5 x6 hk => by
    rw [e_for1]
    exact (congrArg (fun o => Out.loop o (mFor (gN 5) inner ds)) (inner_ok (x0 := some (.sh (.list (ns.map .int)))) (x2 := x2) (x3 := x3) (x6 := x6) (x7 := none) (x8 := none) (w := w) (h := h) (x := x) hk)).trans rfl
  have lk : ∀ (k : List Pt) (x : Int), (k ++ [(x, -1), (x, 0), (x, h), (x, h + 1)]).length = k.length + 4 := fun k x => by simp
  show Out.andThen (mFor (gN 5) inner [.int (-1), .int 0, .int w, .int (w + 1)] _) _ = _
  rw [st _ _ _ _ _ (by omega), st _ _ _ _ _ (by rw [lk]; omega), st _ _ _ _ _ (by rw [lk, lk]; omega), st _ _ _ _ _ (by rw [lk, lk, lk]; omega), e_for0, at_nx]
  exact law5_ok (by rw [lk, lk, lk, lk]; omega)
theorem law3_ok {ns : List Int} {w h : Int} {l : List Pt} {f : Nat → Int} (hl : l.length ≤ 100) (hb : Bd 1000 l) : law_3 [some (.sh (.list (ns.map .int))), some (.sh (eC (w, h))), some (.ow (l.map eC)), some (.ow (dl f 4)), none, none, none, none, none] = .rt (.bool true) := by
  have a1 : ∀ t, m__law_answers [eC (w, h), .list (l.map eC), .bool t] = .rt (.bool true) := fun t => answers_ok hl hb
  have a2 : ∀ t, m__law_answers [eC (w, h), .list (l.map eC).reverse, .bool t] = .rt (.bool true) := fun t => by
    rw [← List.map_reverse]
    exact answers_ok (by simpa using hl) (bd_rev hb)
  unfold law_3
  simp [atI_dl, a1, a2]
  exact law4_ok (by omega)
theorem law_true (ns : List Int) (hl : ns.length ≤ 63) : m_law [.list (ns.map .int)] = .rt (.bool true) := by
  obtain ⟨c0, k0⟩ := cell_ok ns 0 (by omega)
  obtain ⟨c1, k1⟩ := cell_ok ns 1 (by omega)
  obtain ⟨c2, k2⟩ := cell_ok ns 2 (by omega)
  obtain ⟨c3, k3⟩ := cell_ok ns 3 (by omega)
  obtain ⟨c4, k4⟩ := cell_ok ns 4 (by omega)
  obtain ⟨c5, k5⟩ := cell_ok ns 5 (by omega)
  obtain ⟨c6, k6⟩ := cell_ok ns 6 (by omega)
  obtain ⟨w, h, e0, hB⟩ := board_ok c0 8 (by omega)
  obtain ⟨l1, e1, n1, b1⟩ := row_call (walked_ok c1 c2 w h hB)
  have b1' : Bd 12 l1 := bd_le b1 (by omega)
  obtain ⟨l2, e2, n2, b2⟩ := row_call (spoilt_ok c4 w h hB n1 (by omega) b1' (by omega))
  obtain ⟨l3, e3, n3, b3⟩ := row_call (spoilt_ok c5 w h hB n2 (by omega) b2 (by omega))
  obtain ⟨l4, e4, n4, b4⟩ := row_call (any_ok c6 w h hB)
  obtain ⟨f, hd, hb⟩ := lst_draws (c := c3) (sizes := [2, 8, 8, 2]) (by simp) (by simp)
  simp at hd k0 k1 k2 k3 k4 k5 k6
  have fin : ∀ l : List Pt, l.length ≤ 100 → Bd 1000 l → law_3 [some (.sh (.list (ns.map .int))), some (.sh (eC (w, h))), some (.ow (l.map eC)), some (.ow (dl f 4)), none, none, none, none, none] = .rt (.bool true) := fun l h1 h2 => law3_ok h1 h2
  unfold m_law mFn
  show (mSeq _ (mSeq _ (mSeq _ (mSeq _ (mSeq _ (mSeq _ law_3)))))) _ = _
  unfold startS
  by_cases h0 : f 0 = 1 <;> by_cases h1 : f 1 = 0 <;> by_cases h2 : f 2 = 0 <;> simp [k0, k1, k2, k3, k4, k5, k6, e0, e1, e2, e3, e4, hd, h0, h1, h2, atI_dl] <;>
    first
      | exact fin l4 (by omega) (bd_le b4 (by omega))
      | exact fin l3 (by omega) (bd_le b3 (by omega))
      | exact fin l2 (by omega) (bd_le b2 (by omega))
      | exact fin l1 (by omega) (bd_le b1 (by omega))
end Toy

namespace Toy
open PySem L2 DD
theorem all_mk {l : PySem.W.OpenLaw} {w : World} {K : Fg} {h : Heap} {mg : Str → Option Value} {fa : Addr} {f0 f1 f2 f3 f4 f5 f6 f7 f8 f9 f10 f11 f12 f13 f14 f15 f16 f17 f18 f19 f20 f21 f22 C_PlaneError C_OffBoard C_NotAPath N_OffBoard I_OffBoard cda_OffBoard cc_OffBoard N_NotAPath I_NotAPath cda_NotAPath cc_NotAPath d_DIRECTIONS k0_DIRECTIONS k1_DIRECTIONS k2_DIRECTIONS k3_DIRECTIONS : Addr} {od0 an0 od1 an1 od2 an2 od3 an3 od4 an4 od5 an5 od6 an6 od7 an7 od8 an8 od9 an9 od10 an10 od11 an11 od12 an12 od13 an13 od14 an14 od15 an15 od16 an16 od17 an17 od18 an18 od19 an19 od20 an20 od21 an21 od22 an22 dd_OffBoard oda_OffBoard odb_OffBoard odc_OffBoard an_OffBoard dd_NotAPath oda_NotAPath odb_NotAPath odc_NotAPath an_NotAPath o0_DIRECTIONS o1_DIRECTIONS o2_DIRECTIONS o3_DIRECTIONS : Option Addr} {sl0 sl1 sl2 sl3 sl4 sl5 sl6 sl7 sl8 sl9 sl10 sl11 sl12 sl13 sl14 sl15 sl16 sl17 sl18 sl19 sl20 sl21 sl22 sla_OffBoard slb_OffBoard slc_OffBoard sla_NotAPath slb_NotAPath slc_NotAPath s0_DIRECTIONS s1_DIRECTIONS s2_DIRECTIONS s3_DIRECTIONS : Array (Option Value)} {oc0 kV0 dc0 pm0 cd0 ct0 oc1 kV1 dc1 pm1 cd1 ct1 oc2 kV2 dc2 pm2 cd2 ct2 oc3 kV3 dc3 pm3 cd3 ct3 oc4 kV4 dc4 pm4 cd4 ct4 oc5 kV5 dc5 pm5 cd5 ct5 oc6 kV6 dc6 pm6 cd6 ct6 oc7 kV7 dc7 pm7 cd7 ct7 oc8 kV8 dc8 pm8 cd8 ct8 oc9 kV9 dc9 pm9 cd9 ct9 oc10 kV10 dc10 pm10 cd10 ct10 oc11 kV11 dc11 pm11 cd11 ct11 oc12 kV12 dc12 pm12 cd12 ct12 oc13 kV13 dc13 pm13 cd13 ct13 oc14 kV14 dc14 pm14 cd14 ct14 oc15 kV15 dc15 pm15 cd15 ct15 oc16 kV16 dc16 pm16 cd16 ct16 oc17 kV17 dc17 pm17 cd17 ct17 oc18 kV18 dc18 pm18 cd18 ct18 oc19 kV19 dc19 pm19 cd19 ct19 oc20 kV20 dc20 pm20 cd20 ct20 oc21 kV21 dc21 pm21 cd21 ct21 oc22 kV22 dc22 pm22 cd22 ct22 oca_OffBoard ocb_OffBoard occ_OffBoard kV_OffBoard dc_OffBoard pm_OffBoard ct_OffBoard oca_NotAPath ocb_NotAPath occ_NotAPath kV_NotAPath dc_NotAPath pm_NotAPath ct_NotAPath : Value} {nm_OffBoard qq_OffBoard file_OffBoard nm_NotAPath qq_NotAPath file_NotAPath : Str} {bs_OffBoard sub_OffBoard bs_NotAPath sub_NotAPath : List Value} {sn_OffBoard sn_NotAPath : List Str} {ab_OffBoard ab_NotAPath : Bool} {col_OffBoard col_NotAPath : Option Bool} {m0_OffBoard m1_OffBoard m2_OffBoard m3_OffBoard m5_OffBoard m0_NotAPath m1_NotAPath m2_NotAPath m3_NotAPath m5_NotAPath : Option Value} {h0_DIRECTIONS h1_DIRECTIONS h2_DIRECTIONS h3_DIRECTIONS : Int} {tk_OffBoard tk_NotAPath t0_DIRECTIONS u0_DIRECTIONS v0_DIRECTIONS t1_DIRECTIONS u1_DIRECTIONS v1_DIRECTIONS t2_DIRECTIONS u2_DIRECTIONS v2_DIRECTIONS t3_DIRECTIONS u3_DIRECTIONS v3_DIRECTIONS : Tok} {ep_DIRECTIONS n0_DIRECTIONS n1_DIRECTIONS n2_DIRECTIONS n3_DIRECTIONS : Nat} {fv_OffBoard fv_NotAPath : Array Value} (X : K.In h) (G : h.Ns mainGlobals mg) (hfa : mg "law" = some (.ref fa))
    (a0 : PySem.W.nsIn K mainGlobals "on_board" = some (some (.ref f0)))
    (l0 : K.lookup f0 = some ⟨oc0, od0, .func (PySem.W.fnOf "on_board" "on_board" (defArgs s_on_board) (defBody s_on_board) (defScope s_on_board) .none kV0 dc0 pm0 an0 cd0 ct0), sl0⟩)
    (d0 : PySem.W.codeIn K cd0 "on_board" = true)
    (k0 : PySem.W.keepIn K (.ref f0) = true)
    (a1 : PySem.W.nsIn K mainGlobals "direction" = some (some (.ref f1)))
    (l1 : K.lookup f1 = some ⟨oc1, od1, .func (PySem.W.fnOf "direction" "direction" (defArgs s_direction) (defBody s_direction) (defScope s_direction) .none kV1 dc1 pm1 an1 cd1 ct1), sl1⟩)
    (d1 : PySem.W.codeIn K cd1 "direction" = true)
    (k1 : PySem.W.keepIn K (.ref f1) = true)
    (a2 : PySem.W.nsIn K mainGlobals "_fit_together" = some (some (.ref f2)))
    (l2 : K.lookup f2 = some ⟨oc2, od2, .func (PySem.W.fnOf "_fit_together" "_fit_together" (defArgs s__fit_together) (defBody s__fit_together) (defScope s__fit_together) .none kV2 dc2 pm2 an2 cd2 ct2), sl2⟩)
    (d2 : PySem.W.codeIn K cd2 "_fit_together" = true)
    (k2 : PySem.W.keepIn K (.ref f2) = true)
    (a3 : PySem.W.nsIn K mainGlobals "from_lesser_end" = some (some (.ref f3)))
    (l3 : K.lookup f3 = some ⟨oc3, od3, .func (PySem.W.fnOf "from_lesser_end" "from_lesser_end" (defArgs s_from_lesser_end) (defBody s_from_lesser_end) (defScope s_from_lesser_end) .none kV3 dc3 pm3 an3 cd3 ct3), sl3⟩)
    (d3 : PySem.W.codeIn K cd3 "from_lesser_end" = true)
    (k3 : PySem.W.keepIn K (.ref f3) = true)
    (a4 : PySem.W.nsIn K mainGlobals "_law_cell" = some (some (.ref f4)))
    (l4 : K.lookup f4 = some ⟨oc4, od4, .func (PySem.W.fnOf "_law_cell" "_law_cell" (defArgs s__law_cell) (defBody s__law_cell) (defScope s__law_cell) .none kV4 dc4 pm4 an4 cd4 ct4), sl4⟩)
    (d4 : PySem.W.codeIn K cd4 "_law_cell" = true)
    (k4 : PySem.W.keepIn K (.ref f4) = true)
    (a5 : PySem.W.nsIn K mainGlobals "_law_draws" = some (some (.ref f5)))
    (l5 : K.lookup f5 = some ⟨oc5, od5, .func (PySem.W.fnOf "_law_draws" "_law_draws" (defArgs s__law_draws) (defBody s__law_draws) (defScope s__law_draws) .none kV5 dc5 pm5 an5 cd5 ct5), sl5⟩)
    (d5 : PySem.W.codeIn K cd5 "_law_draws" = true)
    (k5 : PySem.W.keepIn K (.ref f5) = true)
    (a6 : PySem.W.nsIn K mainGlobals "_law_on_board" = some (some (.ref f6)))
    (l6 : K.lookup f6 = some ⟨oc6, od6, .func (PySem.W.fnOf "_law_on_board" "_law_on_board" (defArgs s__law_on_board) (defBody s__law_on_board) (defScope s__law_on_board) .none kV6 dc6 pm6 an6 cd6 ct6), sl6⟩)
    (d6 : PySem.W.codeIn K cd6 "_law_on_board" = true)
    (k6 : PySem.W.keepIn K (.ref f6) = true)
    (a7 : PySem.W.nsIn K mainGlobals "_law_is_integer" = some (some (.ref f7)))
    (l7 : K.lookup f7 = some ⟨oc7, od7, .func (PySem.W.fnOf "_law_is_integer" "_law_is_integer" (defArgs s__law_is_integer) (defBody s__law_is_integer) (defScope s__law_is_integer) .none kV7 dc7 pm7 an7 cd7 ct7), sl7⟩)
    (d7 : PySem.W.codeIn K cd7 "_law_is_integer" = true)
    (k7 : PySem.W.keepIn K (.ref f7) = true)
    (a8 : PySem.W.nsIn K mainGlobals "_law_stepped" = some (some (.ref f8)))
    (l8 : K.lookup f8 = some ⟨oc8, od8, .func (PySem.W.fnOf "_law_stepped" "_law_stepped" (defArgs s__law_stepped) (defBody s__law_stepped) (defScope s__law_stepped) .none kV8 dc8 pm8 an8 cd8 ct8), sl8⟩)
    (d8 : PySem.W.codeIn K cd8 "_law_stepped" = true)
    (k8 : PySem.W.keepIn K (.ref f8) = true)
    (a9 : PySem.W.nsIn K mainGlobals "_law_within" = some (some (.ref f9)))
    (l9 : K.lookup f9 = some ⟨oc9, od9, .func (PySem.W.fnOf "_law_within" "_law_within" (defArgs s__law_within) (defBody s__law_within) (defScope s__law_within) .none kV9 dc9 pm9 an9 cd9 ct9), sl9⟩)
    (d9 : PySem.W.codeIn K cd9 "_law_within" = true)
    (k9 : PySem.W.keepIn K (.ref f9) = true)
    (a10 : PySem.W.nsIn K mainGlobals "_law_board" = some (some (.ref f10)))
    (l10 : K.lookup f10 = some ⟨oc10, od10, .func (PySem.W.fnOf "_law_board" "_law_board" (defArgs s__law_board) (defBody s__law_board) (defScope s__law_board) .none kV10 dc10 pm10 an10 cd10 ct10), sl10⟩)
    (d10 : PySem.W.codeIn K cd10 "_law_board" = true)
    (k10 : PySem.W.keepIn K (.ref f10) = true)
    (a11 : PySem.W.nsIn K mainGlobals "_law_is_corner" = some (some (.ref f11)))
    (l11 : K.lookup f11 = some ⟨oc11, od11, .func (PySem.W.fnOf "_law_is_corner" "_law_is_corner" (defArgs s__law_is_corner) (defBody s__law_is_corner) (defScope s__law_is_corner) .none kV11 dc11 pm11 an11 cd11 ct11), sl11⟩)
    (d11 : PySem.W.codeIn K cd11 "_law_is_corner" = true)
    (k11 : PySem.W.keepIn K (.ref f11) = true)
    (a12 : PySem.W.nsIn K mainGlobals "_law_walked" = some (some (.ref f12)))
    (l12 : K.lookup f12 = some ⟨oc12, od12, .func (PySem.W.fnOf "_law_walked" "_law_walked" (defArgs s__law_walked) (defBody s__law_walked) (defScope s__law_walked) .none kV12 dc12 pm12 an12 cd12 ct12), sl12⟩)
    (d12 : PySem.W.codeIn K cd12 "_law_walked" = true)
    (k12 : PySem.W.keepIn K (.ref f12) = true)
    (a13 : PySem.W.nsIn K mainGlobals "_law_spoilt" = some (some (.ref f13)))
    (l13 : K.lookup f13 = some ⟨oc13, od13, .func (PySem.W.fnOf "_law_spoilt" "_law_spoilt" (defArgs s__law_spoilt) (defBody s__law_spoilt) (defScope s__law_spoilt) .none kV13 dc13 pm13 an13 cd13 ct13), sl13⟩)
    (d13 : PySem.W.codeIn K cd13 "_law_spoilt" = true)
    (k13 : PySem.W.keepIn K (.ref f13) = true)
    (a14 : PySem.W.nsIn K mainGlobals "_law_any_row" = some (some (.ref f14)))
    (l14 : K.lookup f14 = some ⟨oc14, od14, .func (PySem.W.fnOf "_law_any_row" "_law_any_row" (defArgs s__law_any_row) (defBody s__law_any_row) (defScope s__law_any_row) .none kV14 dc14 pm14 an14 cd14 ct14), sl14⟩)
    (d14 : PySem.W.codeIn K cd14 "_law_any_row" = true)
    (k14 : PySem.W.keepIn K (.ref f14) = true)
    (a15 : PySem.W.nsIn K mainGlobals "_law_direction" = some (some (.ref f15)))
    (l15 : K.lookup f15 = some ⟨oc15, od15, .func (PySem.W.fnOf "_law_direction" "_law_direction" (defArgs s__law_direction) (defBody s__law_direction) (defScope s__law_direction) .none kV15 dc15 pm15 an15 cd15 ct15), sl15⟩)
    (d15 : PySem.W.codeIn K cd15 "_law_direction" = true)
    (k15 : PySem.W.keepIn K (.ref f15) = true)
    (a16 : PySem.W.nsIn K mainGlobals "normal_path" = some (some (.ref f16)))
    (l16 : K.lookup f16 = some ⟨oc16, od16, .func (PySem.W.fnOf "normal_path" "normal_path" (defArgs s_normal_path) (defBody s_normal_path) (defScope s_normal_path) .none kV16 dc16 pm16 an16 cd16 ct16), sl16⟩)
    (d16 : PySem.W.codeIn K cd16 "normal_path" = true)
    (k16 : PySem.W.keepIn K (.ref f16) = true)
    (a17 : PySem.W.nsIn K mainGlobals "_law_is_path" = some (some (.ref f17)))
    (l17 : K.lookup f17 = some ⟨oc17, od17, .func (PySem.W.fnOf "_law_is_path" "_law_is_path" (defArgs s__law_is_path) (defBody s__law_is_path) (defScope s__law_is_path) .none kV17 dc17 pm17 an17 cd17 ct17), sl17⟩)
    (d17 : PySem.W.codeIn K cd17 "_law_is_path" = true)
    (k17 : PySem.W.keepIn K (.ref f17) = true)
    (a18 : PySem.W.nsIn K mainGlobals "_law_due" = some (some (.ref f18)))
    (l18 : K.lookup f18 = some ⟨oc18, od18, .func (PySem.W.fnOf "_law_due" "_law_due" (defArgs s__law_due) (defBody s__law_due) (defScope s__law_due) .none kV18 dc18 pm18 an18 cd18 ct18), sl18⟩)
    (d18 : PySem.W.codeIn K cd18 "_law_due" = true)
    (k18 : PySem.W.keepIn K (.ref f18) = true)
    (a19 : PySem.W.nsIn K mainGlobals "_law_told" = some (some (.ref f19)))
    (l19 : K.lookup f19 = some ⟨oc19, od19, .func (PySem.W.fnOf "_law_told" "_law_told" (defArgs s__law_told) (defBody s__law_told) (defScope s__law_told) .none kV19 dc19 pm19 an19 cd19 ct19), sl19⟩)
    (d19 : PySem.W.codeIn K cd19 "_law_told" = true)
    (k19 : PySem.W.keepIn K (.ref f19) = true)
    (a20 : PySem.W.nsIn K mainGlobals "_law_same" = some (some (.ref f20)))
    (l20 : K.lookup f20 = some ⟨oc20, od20, .func (PySem.W.fnOf "_law_same" "_law_same" (defArgs s__law_same) (defBody s__law_same) (defScope s__law_same) .none kV20 dc20 pm20 an20 cd20 ct20), sl20⟩)
    (d20 : PySem.W.codeIn K cd20 "_law_same" = true)
    (k20 : PySem.W.keepIn K (.ref f20) = true)
    (a21 : PySem.W.nsIn K mainGlobals "_law_answers" = some (some (.ref f21)))
    (l21 : K.lookup f21 = some ⟨oc21, od21, .func (PySem.W.fnOf "_law_answers" "_law_answers" (defArgs s__law_answers) (defBody s__law_answers) (defScope s__law_answers) .none kV21 dc21 pm21 an21 cd21 ct21), sl21⟩)
    (d21 : PySem.W.codeIn K cd21 "_law_answers" = true)
    (k21 : PySem.W.keepIn K (.ref f21) = true)
    (a22 : PySem.W.nsIn K mainGlobals "law" = some (some (.ref f22)))
    (l22 : K.lookup f22 = some ⟨oc22, od22, .func (PySem.W.fnOf "law" "law" (defArgs s_law) (defBody s_law) (defScope s_law) .none kV22 dc22 pm22 an22 cd22 ct22), sl22⟩)
    (d22 : PySem.W.codeIn K cd22 "law" = true)
    (k22 : PySem.W.keepIn K (.ref f22) = true)
    (z0 : PySem.W.nsIn K mainGlobals "ValueError" = some none)
    (z1 : PySem.W.nsIn K mainGlobals "bool" = some none)
    (z2 : PySem.W.nsIn K mainGlobals "enumerate" = some none)
    (z3 : PySem.W.nsIn K mainGlobals "int" = some none)
    (z4 : PySem.W.nsIn K mainGlobals "isinstance" = some none)
    (z5 : PySem.W.nsIn K mainGlobals "len" = some none)
    (z6 : PySem.W.nsIn K mainGlobals "list" = some none)
    (z7 : PySem.W.nsIn K mainGlobals "range" = some none)
    (z8 : PySem.W.nsIn K mainGlobals "tuple" = some none)
    (A_PlaneError : PySem.W.nsIn K mainGlobals "PlaneError" = some (some (.ref C_PlaneError)))
    (A_OffBoard : PySem.W.nsIn K mainGlobals "OffBoard" = some (some (.ref C_OffBoard)))
    (A_NotAPath : PySem.W.nsIn K mainGlobals "NotAPath" = some (some (.ref C_NotAPath)))
    (cls_clear : PySem.W.nsIn K PySem.cStatics "thirdparty.any" = some none)
    (cls_super : PySem.W.nsIn K mainGlobals "super" = some none)
    (cls_top : (l.prog.main.scope.names.lookup ("super" : Str)).isSome = false)
    (cls_n : PySem.W.specialIn K (.builtin "object.__class__") "__get__" = some (some (.builtin "getset_descriptor.__get__")))
    (cls_t : PySem.W.takesIn K (.builtin "object.__class__") = some true)
    (ga_OffBoard : PySem.W.findIn K (.ref C_OffBoard) "__getattribute__" = some (some (.builtin "BaseException.__getattribute__")))
    (gg_OffBoard : PySem.W.findIn K (.ref C_OffBoard) "__getattr__" = some none)
    (eC_OffBoard : PySem.W.subIn K (.ref C_OffBoard) (.type "BaseException") = some true)
    (hC_OffBoard : PySem.W.hasDictIn K C_OffBoard = true)
    (ic_OffBoard : PySem.W.isClsIn K C_OffBoard = true)
    (tc_OffBoard : PySem.W.typeIn K (.ref C_OffBoard) = some (.type "type"))
    (ca_OffBoard : PySem.W.findIn K (.ref C_OffBoard) "__class__" = some (some (.builtin "object.__class__")))
    (mo_OffBoard : PySem.W.mroIn K C_OffBoard (.type "object") = some true)
    (xL_OffBoard : K.lookup C_OffBoard = some (excClassObj nm_OffBoard qq_OffBoard C_OffBoard N_OffBoard bs_OffBoard [.ref C_PlaneError, .type "ValueError", .type "Exception", .type "BaseException", .type "object"] true sn_OffBoard sub_OffBoard ab_OffBoard col_OffBoard dd_OffBoard m0_OffBoard m1_OffBoard m2_OffBoard m3_OffBoard m5_OffBoard "ValueError.__new__"))
    (sa_OffBoard : PySem.W.findIn K (.ref C_OffBoard) "__setattr__" = some (some (.builtin "object.__setattr__")))
    (kC_OffBoard : PySem.W.keepIn K (.ref C_OffBoard) = true)
    (iI_OffBoard : PySem.W.findIn K (.ref C_OffBoard) "__init__" = some (some (.ref I_OffBoard)))
    (tI_OffBoard : PySem.W.typeIn K (.ref I_OffBoard) = some (.type "function"))
    (lI_OffBoard : K.lookup I_OffBoard = some ⟨oca_OffBoard, oda_OffBoard, .func (PySem.W.ksFn "__init__" "OffBoard.__init__" (defArgs si_OffBoard) (defBody si_OffBoard) (defScope si_OffBoard) .none kV_OffBoard dc_OffBoard pm_OffBoard an_OffBoard (.ref cda_OffBoard) ct_OffBoard cc_OffBoard), sla_OffBoard⟩)
    (cd_OffBoard : PySem.W.codeIn K (.ref cda_OffBoard) "OffBoard.__init__" = true)
    (lc_OffBoard : K.lookup cda_OffBoard = some ⟨ocb_OffBoard, odb_OffBoard, .fields fv_OffBoard, slb_OffBoard⟩)
    (lv_OffBoard : fv_OffBoard[2]? = some (.str file_OffBoard tk_OffBoard))
    (lf_OffBoard : ((l.prog.main.file : Str) == file_OffBoard) = true)
    (le_OffBoard : K.lookup cc_OffBoard = some ⟨occ_OffBoard, odc_OffBoard, .cell (some (.ref C_OffBoard)), slc_OffBoard⟩)
    (ms_OffBoard : PySem.W.mroIn K C_OffBoard (.ref C_OffBoard) = some true)
    (al_OffBoard : PySem.W.ks_superIn K C_OffBoard C_OffBoard "__init__" = some (some (.builtin "ValueError.__init__")))
    (iv_OffBoard : PySem.W.subIn K (.ref C_OffBoard) (.type "ValueError") = some true)
    (ga_NotAPath : PySem.W.findIn K (.ref C_NotAPath) "__getattribute__" = some (some (.builtin "BaseException.__getattribute__")))
    (gg_NotAPath : PySem.W.findIn K (.ref C_NotAPath) "__getattr__" = some none)
    (eC_NotAPath : PySem.W.subIn K (.ref C_NotAPath) (.type "BaseException") = some true)
    (hC_NotAPath : PySem.W.hasDictIn K C_NotAPath = true)
    (ic_NotAPath : PySem.W.isClsIn K C_NotAPath = true)
    (tc_NotAPath : PySem.W.typeIn K (.ref C_NotAPath) = some (.type "type"))
    (ca_NotAPath : PySem.W.findIn K (.ref C_NotAPath) "__class__" = some (some (.builtin "object.__class__")))
    (mo_NotAPath : PySem.W.mroIn K C_NotAPath (.type "object") = some true)
    (xL_NotAPath : K.lookup C_NotAPath = some (excClassObj nm_NotAPath qq_NotAPath C_NotAPath N_NotAPath bs_NotAPath [.ref C_PlaneError, .type "ValueError", .type "Exception", .type "BaseException", .type "object"] true sn_NotAPath sub_NotAPath ab_NotAPath col_NotAPath dd_NotAPath m0_NotAPath m1_NotAPath m2_NotAPath m3_NotAPath m5_NotAPath "ValueError.__new__"))
    (sa_NotAPath : PySem.W.findIn K (.ref C_NotAPath) "__setattr__" = some (some (.builtin "object.__setattr__")))
    (kC_NotAPath : PySem.W.keepIn K (.ref C_NotAPath) = true)
    (iI_NotAPath : PySem.W.findIn K (.ref C_NotAPath) "__init__" = some (some (.ref I_NotAPath)))
    (tI_NotAPath : PySem.W.typeIn K (.ref I_NotAPath) = some (.type "function"))
    (lI_NotAPath : K.lookup I_NotAPath = some ⟨oca_NotAPath, oda_NotAPath, .func (PySem.W.ksFn "__init__" "NotAPath.__init__" (defArgs si_NotAPath) (defBody si_NotAPath) (defScope si_NotAPath) .none kV_NotAPath dc_NotAPath pm_NotAPath an_NotAPath (.ref cda_NotAPath) ct_NotAPath cc_NotAPath), sla_NotAPath⟩)
    (cd_NotAPath : PySem.W.codeIn K (.ref cda_NotAPath) "NotAPath.__init__" = true)
    (lc_NotAPath : K.lookup cda_NotAPath = some ⟨ocb_NotAPath, odb_NotAPath, .fields fv_NotAPath, slb_NotAPath⟩)
    (lv_NotAPath : fv_NotAPath[2]? = some (.str file_NotAPath tk_NotAPath))
    (lf_NotAPath : ((l.prog.main.file : Str) == file_NotAPath) = true)
    (le_NotAPath : K.lookup cc_NotAPath = some ⟨occ_NotAPath, odc_NotAPath, .cell (some (.ref C_NotAPath)), slc_NotAPath⟩)
    (ms_NotAPath : PySem.W.mroIn K C_NotAPath (.ref C_NotAPath) = some true)
    (al_NotAPath : PySem.W.ks_superIn K C_NotAPath C_NotAPath "__init__" = some (some (.builtin "ValueError.__init__")))
    (iv_NotAPath : PySem.W.subIn K (.ref C_NotAPath) (.type "ValueError") = some true)
    (f_OffBoard_corner : PySem.W.findIn K (.ref C_OffBoard) "corner" = some none)
    (f_NotAPath_index : PySem.W.findIn K (.ref C_NotAPath) "index" = some none)
    (sc_OffBoard : PySem.W.subIn K (.ref C_OffBoard) (.ref C_OffBoard) = some true)
    (sc_NotAPath : PySem.W.subIn K (.ref C_NotAPath) (.ref C_NotAPath) = some true)
    (sx_NotAPath_OffBoard : PySem.W.subIn K (.ref C_NotAPath) (.ref C_OffBoard) = some false)
    (i_OffBoard_PlaneError : PySem.W.kitOne K (.ref C_OffBoard) (.ref C_PlaneError) = some true)
    (i_OffBoard_ValueError : PySem.W.kitOne K (.ref C_OffBoard) (.type "ValueError") = some true)
    (i_OffBoard_NotAPath : PySem.W.kitOne K (.ref C_OffBoard) (.ref C_NotAPath) = some false)
    (i_NotAPath_PlaneError : PySem.W.kitOne K (.ref C_NotAPath) (.ref C_PlaneError) = some true)
    (i_NotAPath_ValueError : PySem.W.kitOne K (.ref C_NotAPath) (.type "ValueError") = some true)
    (i_NotAPath_OffBoard : PySem.W.kitOne K (.ref C_NotAPath) (.ref C_OffBoard) = some false)
    (a_DIRECTIONS : PySem.W.nsIn K mainGlobals "DIRECTIONS" = some (some (.ref d_DIRECTIONS)))
    (l_DIRECTIONS : K.lookup d_DIRECTIONS = some ⟨.type "dict", none, .dict #[⟨h0_DIRECTIONS, .ref k0_DIRECTIONS, .str "E" t0_DIRECTIONS⟩, ⟨h1_DIRECTIONS, .ref k1_DIRECTIONS, .str "W" t1_DIRECTIONS⟩, ⟨h2_DIRECTIONS, .ref k2_DIRECTIONS, .str "N" t2_DIRECTIONS⟩, ⟨h3_DIRECTIONS, .ref k3_DIRECTIONS, .str "S" t3_DIRECTIONS⟩] ep_DIRECTIONS, #[]⟩)
    (y0_DIRECTIONS : K.lookup k0_DIRECTIONS = some ⟨.type "tuple", o0_DIRECTIONS, .seq #[.int (1) u0_DIRECTIONS, .int (0) v0_DIRECTIONS] n0_DIRECTIONS, s0_DIRECTIONS⟩)
    (w0_DIRECTIONS : h0_DIRECTIONS = L2.thash l.prog w [1, 0])
    (y1_DIRECTIONS : K.lookup k1_DIRECTIONS = some ⟨.type "tuple", o1_DIRECTIONS, .seq #[.int (-1) u1_DIRECTIONS, .int (0) v1_DIRECTIONS] n1_DIRECTIONS, s1_DIRECTIONS⟩)
    (w1_DIRECTIONS : h1_DIRECTIONS = L2.thash l.prog w [-1, 0])
    (y2_DIRECTIONS : K.lookup k2_DIRECTIONS = some ⟨.type "tuple", o2_DIRECTIONS, .seq #[.int (0) u2_DIRECTIONS, .int (1) v2_DIRECTIONS] n2_DIRECTIONS, s2_DIRECTIONS⟩)
    (w2_DIRECTIONS : h2_DIRECTIONS = L2.thash l.prog w [0, 1])
    (y3_DIRECTIONS : K.lookup k3_DIRECTIONS = some ⟨.type "tuple", o3_DIRECTIONS, .seq #[.int (0) u3_DIRECTIONS, .int (-1) v3_DIRECTIONS] n3_DIRECTIONS, s3_DIRECTIONS⟩)
    (w3_DIRECTIONS : h3_DIRECTIONS = L2.thash l.prog w [0, -1])
    (n_DIRECTIONS : (d_DIRECTIONS == sysModules) = false)
    : ∃ fd : FuncData, (∀ (s : Shared) (v : Value), BindsTo s fd ⟨[v], []⟩ [("_law_script", v)]) ∧ ∀ base : Heap, K.In base → base.Ns mainGlobals mg → FnOk l.prog w K mg base CX0 6 fa fd ["_law_script"] (spD K C0 1 m_law) := by
  have e := hfa.symm.trans (PySem.W.mg_of X G a22)
  cases e
  have T : Top mg := ⟨PySem.W.mg_none_of X G z0, PySem.W.mg_none_of X G z1, PySem.W.mg_none_of X G z2, PySem.W.mg_none_of X G z3, PySem.W.mg_none_of X G z4, PySem.W.mg_none_of X G z5, PySem.W.mg_none_of X G z6, PySem.W.mg_none_of X G z7, PySem.W.mg_none_of X G z8⟩
  refine ⟨PySem.W.fnOf "law" "law" (defArgs s_law) (defBody s_law) (defScope s_law) .none kV22 dc22 pm22 an22 cd22 ct22, fun s v => .of_eq rfl, fun base _ _ => ?_⟩
  have htab : ∃ tab : Tab, tab "OffBoard" = some (C_OffBoard, (["corner"] : List Str)) ∧ tab "NotAPath" = some (C_NotAPath, (["index"] : List Str)) := ⟨fun c => if c = "NotAPath" then some (C_NotAPath, (["index"] : List Str)) else if c = "OffBoard" then some (C_OffBoard, (["corner"] : List Str)) else none, by simp [show ¬ (("OffBoard" : Str) = "NotAPath") by decide +kernel], by simp [show ¬ (("NotAPath" : Str) = "OffBoard") by decide +kernel]⟩
  obtain ⟨tab, t_OffBoard, t_NotAPath⟩ := htab
  have tt_OffBoard := t_OffBoard
  have tt_NotAPath := t_NotAPath
  have gc_PlaneError : mg "PlaneError" = some (.ref C_PlaneError) := PySem.W.mg_of X G A_PlaneError
  have gc_OffBoard : mg "OffBoard" = some (.ref C_OffBoard) := PySem.W.mg_of X G A_OffBoard
  have gc_NotAPath : mg "NotAPath" = some (.ref C_NotAPath) := PySem.W.mg_of X G A_NotAPath
  have r_OffBoard : ExcR K C_OffBoard := ⟨⟨ga_OffBoard, gg_OffBoard, eC_OffBoard, hC_OffBoard⟩, ic_OffBoard, ca_OffBoard, cls_n, cls_t, mo_OffBoard⟩
  have r_NotAPath : ExcR K C_NotAPath := ⟨⟨ga_NotAPath, gg_NotAPath, eC_NotAPath, hC_NotAPath⟩, ic_NotAPath, ca_NotAPath, cls_n, cls_t, mo_NotAPath⟩
  have ex_OffBoard : PySem.W.exmOne K (.ref C_OffBoard) (.ref C_OffBoard) = some true := PySem.W.exm_ref eC_OffBoard hC_OffBoard tc_OffBoard sc_OffBoard
  have ex_NotAPath : PySem.W.exmOne K (.ref C_NotAPath) (.ref C_NotAPath) = some true := PySem.W.exm_ref eC_NotAPath hC_NotAPath tc_NotAPath sc_NotAPath
  have nx_NotAPath_OffBoard : PySem.W.exmOne K (.ref C_NotAPath) (.ref C_OffBoard) = some false := PySem.W.exm_ref eC_OffBoard hC_OffBoard tc_OffBoard sx_NotAPath_OffBoard
  have O_OffBoard : OexC K C_OffBoard := ⟨⟨_, _, _, _, _, _, _, _, _, _, _, _, _, _, _, xL_OffBoard, rfl⟩, sa_OffBoard, eC_OffBoard, tc_OffBoard, kC_OffBoard⟩
  have S_OffBoard : SupF l.prog K mg I_OffBoard cda_OffBoard cc_OffBoard C_OffBoard := ⟨⟨_, _, _, lI_OffBoard, rfl, rfl, rfl⟩, ⟨_, _, _, _, lc_OffBoard, rfl, lv_OffBoard, lf_OffBoard⟩, ⟨_, le_OffBoard, rfl⟩, ms_OffBoard, al_OffBoard, iv_OffBoard, cls_clear, O_OffBoard, PySem.W.mg_none_of X G cls_super, cls_top⟩
  have e_OffBoard := in_OffBoard (w := w) (base := base) lI_OffBoard cd_OffBoard ⟨_, _, le_OffBoard, rfl⟩ O_OffBoard S_OffBoard f_OffBoard_corner gc_OffBoard iI_OffBoard tI_OffBoard
  have O_NotAPath : OexC K C_NotAPath := ⟨⟨_, _, _, _, _, _, _, _, _, _, _, _, _, _, _, xL_NotAPath, rfl⟩, sa_NotAPath, eC_NotAPath, tc_NotAPath, kC_NotAPath⟩
  have S_NotAPath : SupF l.prog K mg I_NotAPath cda_NotAPath cc_NotAPath C_NotAPath := ⟨⟨_, _, _, lI_NotAPath, rfl, rfl, rfl⟩, ⟨_, _, _, _, lc_NotAPath, rfl, lv_NotAPath, lf_NotAPath⟩, ⟨_, le_NotAPath, rfl⟩, ms_NotAPath, al_NotAPath, iv_NotAPath, cls_clear, O_NotAPath, PySem.W.mg_none_of X G cls_super, cls_top⟩
  have e_NotAPath := in_NotAPath (w := w) (base := base) lI_NotAPath cd_NotAPath ⟨_, _, le_NotAPath, rfl⟩ O_NotAPath S_NotAPath f_NotAPath_index gc_NotAPath iI_NotAPath tI_NotAPath
  have D_DIRECTIONS : DTab l.prog w K d_DIRECTIONS [([1, 0], k0_DIRECTIONS, "E", t0_DIRECTIONS), ([-1, 0], k1_DIRECTIONS, "W", t1_DIRECTIONS), ([0, 1], k2_DIRECTIONS, "N", t2_DIRECTIONS), ([0, -1], k3_DIRECTIONS, "S", t3_DIRECTIONS)] := by
    subst w0_DIRECTIONS w1_DIRECTIONS w2_DIRECTIONS w3_DIRECTIONS
    refine dtab_mk l_DIRECTIONS rfl (fun x hx => ?_) (show ([[1, 0], [-1, 0], [0, 1], [0, -1]] : List (List Int)).Nodup by decide) n_DIRECTIONS (fun x hx => ?_)
    · simp only [List.mem_cons, List.not_mem_nil, or_false] at hx
      rcases hx with rfl | rfl | rfl | rfl
      · exact ⟨_, _, _, y0_DIRECTIONS, rfl, rfl, items2⟩
      · exact ⟨_, _, _, y1_DIRECTIONS, rfl, rfl, items2⟩
      · exact ⟨_, _, _, y2_DIRECTIONS, rfl, rfl, items2⟩
      · exact ⟨_, _, _, y3_DIRECTIONS, rfl, rfl, items2⟩
    · simp only [List.mem_cons, List.not_mem_nil, or_false] at hx
      rcases hx with rfl | rfl | rfl | rfl
      · exact (by decide +kernel : (PyData.str "E").canLay0 = true)
      · exact (by decide +kernel : (PyData.str "W").canLay0 = true)
      · exact (by decide +kernel : (PyData.str "N").canLay0 = true)
      · exact (by decide +kernel : (PyData.str "S").canLay0 = true)
  have g_DIRECTIONS : mg "DIRECTIONS" = some (.ref d_DIRECTIONS) := PySem.W.mg_of X G a_DIRECTIONS
  have q_DIRECTIONS : tabLook [([1, 0], k0_DIRECTIONS, "E", t0_DIRECTIONS), ([-1, 0], k1_DIRECTIONS, "W", t1_DIRECTIONS), ([0, 1], k2_DIRECTIONS, "N", t2_DIRECTIONS), ([0, -1], k3_DIRECTIONS, "S", t3_DIRECTIONS)] = look_DIRECTIONS := by funext k; simp only [tabLook, look_DIRECTIONS]
  have F0 := fun_mk (st := s_on_board) l0 d0 k0
  have c_on_board : Cal l.prog w K mg base CX0 C0 1 "on_board" 2 m_on_board := cal_of (ok_on_board F0 T ) (PySem.W.mg_of X G a0) F0.kp (F0.binds (ps := ["board", "corner"]) fun _ _ _ _ _ _ us hl => match us, hl with | [_, _], _ => rfl)
  have F1 := fun_mk (st := s_direction) l1 d1 k1
  have c_direction : Cal l.prog w K mg base CX0 C0 1 "direction" 2 m_direction := cal_of (ok_direction F1 T D_DIRECTIONS g_DIRECTIONS q_DIRECTIONS) (PySem.W.mg_of X G a1) F1.kp (F1.binds (ps := ["a", "b"]) fun _ _ _ _ _ _ us hl => match us, hl with | [_, _], _ => rfl)
  have F2 := fun_mk (st := s__fit_together) l2 d2 k2
  have c__fit_together : Cal l.prog w K mg base CX0 C0 1 "_fit_together" 1 m__fit_together := cal_of (ok__fit_together F2 T ) (PySem.W.mg_of X G a2) F2.kp (F2.binds (ps := ["directions"]) fun _ _ _ _ _ _ us hl => match us, hl with | [_], _ => rfl)
  have F3 := fun_mk (st := s_from_lesser_end) l3 d3 k3
  have c_from_lesser_end : Cal l.prog w K mg base CX0 C0 1 "from_lesser_end" 1 m_from_lesser_end := cal_of (ok_from_lesser_end F3 T ) (PySem.W.mg_of X G a3) F3.kp (F3.binds (ps := ["row"]) fun _ _ _ _ _ _ us hl => match us, hl with | [_], _ => rfl)
  have F4 := fun_mk (st := s__law_cell) l4 d4 k4
  have c__law_cell : Cal l.prog w K mg base CX0 C0 1 "_law_cell" 2 m__law_cell := cal_of (ok__law_cell F4 T ) (PySem.W.mg_of X G a4) F4.kp (F4.binds (ps := ["_law_script", "_law_k"]) fun _ _ _ _ _ _ us hl => match us, hl with | [_, _], _ => rfl)
  have F5 := fun_mk (st := s__law_draws) l5 d5 k5
  have c__law_draws : Cal l.prog w K mg base CX0 C0 1 "_law_draws" 2 m__law_draws := cal_of (ok__law_draws F5 T ) (PySem.W.mg_of X G a5) F5.kp (F5.binds (ps := ["_law_cell_here", "_law_sizes"]) fun _ _ _ _ _ _ us hl => match us, hl with | [_, _], _ => rfl)
  have F6 := fun_mk (st := s__law_on_board) l6 d6 k6
  have c__law_on_board : Cal l.prog w K mg base CX0 C0 1 "_law_on_board" 2 m__law_on_board := cal_of (ok__law_on_board F6 T ) (PySem.W.mg_of X G a6) F6.kp (F6.binds (ps := ["_law_board_here", "_law_corner"]) fun _ _ _ _ _ _ us hl => match us, hl with | [_, _], _ => rfl)
  have F7 := fun_mk (st := s__law_is_integer) l7 d7 k7
  have c__law_is_integer : Cal l.prog w K mg base CX0 C0 1 "_law_is_integer" 1 m__law_is_integer := cal_of (ok__law_is_integer F7 T ) (PySem.W.mg_of X G a7) F7.kp (F7.binds (ps := ["_law_told_here"]) fun _ _ _ _ _ _ us hl => match us, hl with | [_], _ => rfl)
  have ch__law_is_integer : CalH l.prog w K mg base C0 1 "_law_is_integer" 1 mh__law_is_integer := calH_of (okh__law_is_integer F7 T ) (PySem.W.mg_of X G a7) F7.kp (F7.binds (ps := ["_law_told_here"]) fun _ _ _ _ _ _ us hl => match us, hl with | [_], _ => rfl)
  have F8 := fun_mk (st := s__law_stepped) l8 d8 k8
  have c__law_stepped : Cal l.prog w K mg base CX0 C0 1 "_law_stepped" 2 m__law_stepped := cal_of (ok__law_stepped F8 T ) (PySem.W.mg_of X G a8) F8.kp (F8.binds (ps := ["_law_corner", "_law_letter"]) fun _ _ _ _ _ _ us hl => match us, hl with | [_, _], _ => rfl)
  have F9 := fun_mk (st := s__law_within) l9 d9 k9
  have c__law_within : Cal l.prog w K mg base CX0 C0 1 "_law_within" 2 m__law_within := cal_of (ok__law_within F9 T ) (PySem.W.mg_of X G a9) F9.kp (F9.binds (ps := ["_law_used", "_law_letters"]) fun _ _ _ _ _ _ us hl => match us, hl with | [_, _], _ => rfl)
  have F10 := fun_mk (st := s__law_board) l10 d10 k10
  have c__law_board : Cal l.prog w K mg base CX0 C0 2 "_law_board" 2 m__law_board := cal_of (ok__law_board F10 T c__law_draws) (PySem.W.mg_of X G a10) F10.kp (F10.binds (ps := ["_law_cell_here", "_law_most"]) fun _ _ _ _ _ _ us hl => match us, hl with | [_, _], _ => rfl)
  have F11 := fun_mk (st := s__law_is_corner) l11 d11 k11
  have c__law_is_corner : Cal l.prog w K mg base CX0 C0 2 "_law_is_corner" 1 m__law_is_corner := cal_of (ok__law_is_corner F11 T c__law_is_integer) (PySem.W.mg_of X G a11) F11.kp (F11.binds (ps := ["_law_told_here"]) fun _ _ _ _ _ _ us hl => match us, hl with | [_], _ => rfl)
  have ch__law_is_corner : CalH l.prog w K mg base C0 2 "_law_is_corner" 1 mh__law_is_corner := calH_of (okh__law_is_corner F11 T ch__law_is_integer) (PySem.W.mg_of X G a11) F11.kp (F11.binds (ps := ["_law_told_here"]) fun _ _ _ _ _ _ us hl => match us, hl with | [_], _ => rfl)
  have F12 := fun_mk (st := s__law_walked) l12 d12 k12
  have c__law_walked : Cal l.prog w K mg base CX0 C0 2 "_law_walked" 3 m__law_walked := cal_of (ok__law_walked F12 T c__law_draws c__law_on_board c__law_stepped) (PySem.W.mg_of X G a12) F12.kp (F12.binds (ps := ["_law_board_here", "_law_start_cell", "_law_step_cell"]) fun _ _ _ _ _ _ us hl => match us, hl with | [_, _, _], _ => rfl)
  have F13 := fun_mk (st := s__law_spoilt) l13 d13 k13
  have c__law_spoilt : Cal l.prog w K mg base CX0 C0 2 "_law_spoilt" 3 m__law_spoilt := cal_of (ok__law_spoilt F13 T c__law_draws c__law_stepped) (PySem.W.mg_of X G a13) F13.kp (F13.binds (ps := ["_law_board_here", "_law_row", "_law_cell_here"]) fun _ _ _ _ _ _ us hl => match us, hl with | [_, _, _], _ => rfl)
  have F14 := fun_mk (st := s__law_any_row) l14 d14 k14
  have c__law_any_row : Cal l.prog w K mg base CX0 C0 2 "_law_any_row" 2 m__law_any_row := cal_of (ok__law_any_row F14 T c__law_draws) (PySem.W.mg_of X G a14) F14.kp (F14.binds (ps := ["_law_board_here", "_law_cell_here"]) fun _ _ _ _ _ _ us hl => match us, hl with | [_, _], _ => rfl)
  have F15 := fun_mk (st := s__law_direction) l15 d15 k15
  have c__law_direction : Cal l.prog w K mg base CX0 C0 2 "_law_direction" 2 m__law_direction := cal_of (ok__law_direction F15 T c__law_stepped) (PySem.W.mg_of X G a15) F15.kp (F15.binds (ps := ["_law_corner", "_law_after"]) fun _ _ _ _ _ _ us hl => match us, hl with | [_, _], _ => rfl)
  have F16 := fun_mk (st := s_normal_path) l16 d16 k16
  have c_normal_path : Cal l.prog w K mg base (L2N.CX l.prog w) (CXC K tab) 3 "normal_path" 2 m_normal_path := cal_of (ok_normal_path F16 T e_NotAPath t_NotAPath e_OffBoard t_OffBoard c_on_board c_direction c__fit_together c_from_lesser_end) (PySem.W.mg_of X G a16) F16.kp (F16.binds (ps := ["board", "corners"]) fun _ _ _ _ _ _ us hl => match us, hl with | [_, _], _ => rfl)
  have F17 := fun_mk (st := s__law_is_path) l17 d17 k17
  have c__law_is_path : Cal l.prog w K mg base CX0 C0 3 "_law_is_path" 2 m__law_is_path := cal_of (ok__law_is_path F17 T c__law_is_corner) (PySem.W.mg_of X G a17) F17.kp (F17.binds (ps := ["_law_told_here", "_law_wanted"]) fun _ _ _ _ _ _ us hl => match us, hl with | [_, _], _ => rfl)
  have F18 := fun_mk (st := s__law_due) l18 d18 k18
  have c__law_due : Cal l.prog w K mg base CX0 C0 3 "_law_due" 2 m__law_due := cal_of (ok__law_due F18 T c__law_on_board c__law_direction c__law_within) (PySem.W.mg_of X G a18) F18.kp (F18.binds (ps := ["_law_board_here", "_law_row"]) fun _ _ _ _ _ _ us hl => match us, hl with | [_, _], _ => rfl)
  have F19 := fun_mk (st := s__law_told) l19 d19 k19
  have c__law_told : Cal l.prog w K mg base CX0 C0 4 "_law_told" 2 m__law_told := cal_of (ok__law_told F19 T r_OffBoard tt_OffBoard ex_OffBoard gc_OffBoard r_NotAPath tt_NotAPath ex_NotAPath gc_NotAPath nx_NotAPath_OffBoard i_OffBoard_PlaneError gc_PlaneError i_OffBoard_ValueError i_OffBoard_NotAPath f_OffBoard_corner i_NotAPath_PlaneError i_NotAPath_ValueError i_NotAPath_OffBoard f_NotAPath_index c_normal_path ch__law_is_integer ch__law_is_corner) (PySem.W.mg_of X G a19) F19.kp (F19.binds (ps := ["_law_board_here", "_law_passed"]) fun _ _ _ _ _ _ us hl => match us, hl with | [_, _], _ => rfl)
  have F20 := fun_mk (st := s__law_same) l20 d20 k20
  have c__law_same : Cal l.prog w K mg base CX0 C0 4 "_law_same" 2 m__law_same := cal_of (ok__law_same F20 T c__law_is_path) (PySem.W.mg_of X G a20) F20.kp (F20.binds (ps := ["_law_told_here", "_law_due_here"]) fun _ _ _ _ _ _ us hl => match us, hl with | [_, _], _ => rfl)
  have F21 := fun_mk (st := s__law_answers) l21 d21 k21
  have c__law_answers : Cal l.prog w K mg base CX0 C0 5 "_law_answers" 3 m__law_answers := cal_of (ok__law_answers F21 T c__law_due c__law_told c__law_same) (PySem.W.mg_of X G a21) F21.kp (F21.binds (ps := ["_law_board_here", "_law_row", "_law_as_tuple"]) fun _ _ _ _ _ _ us hl => match us, hl with | [_, _, _], _ => rfl)
  have F22 := fun_mk (st := s_law) l22 d22 k22
  exact ok_law F22 T c_on_board c__law_cell c__law_draws c__law_board c__law_on_board c__law_walked c__law_spoilt c__law_any_row c__law_answers

end Toy
open PySem PySem.W PyProof.Rows
set_option maxRecDepth 100000 in
set_option maxHeartbeats 0 in
theorem PySem.Challenge.cw_cornerplane_k01_normal_path_or_first_fau_holds : PySem.Challenge.rw_cornerplane_k01_normal_path_or_first_fau.Holds := by
  w_on; o_law; k_head; (case hw => w_witness2)
  k_fill
  refine L2.walk_of (l := PySem.Challenge.rw_cornerplane_k01_normal_path_or_first_fau) (n := 63) (k := 6) (x := "_law_script") (CX := fun _ => L2.CX0) (sp := fun w => DD.spD _ DD.C0 1 Toy.m_law) rfl (by decide) rfl ⟨rfl, by decide, by decide⟩ (fun w h Y => PySem.W.kIn_of Y) ?F (fun w H a ns hl hO hS => DD.law_sp (Toy.law_true ns hl) hS) (fun _ _ _ _ _ h => h)
  case F =>
    intro w mg fa h KX G hmg
    refine' Toy.all_mk KX G hmg ?a0 ?l0 ?d0 ?k0 ?a1 ?l1 ?d1 ?k1 ?a2 ?l2 ?d2 ?k2 ?a3 ?l3 ?d3 ?k3 ?a4 ?l4 ?d4 ?k4 ?a5 ?l5 ?d5 ?k5 ?a6 ?l6 ?d6 ?k6 ?a7 ?l7 ?d7 ?k7 ?a8 ?l8 ?d8 ?k8 ?a9 ?l9 ?d9 ?k9 ?a10 ?l10 ?d10 ?k10 ?a11 ?l11 ?d11 ?k11 ?a12 ?l12 ?d12 ?k12 ?a13 ?l13 ?d13 ?k13 ?a14 ?l14 ?d14 ?k14 ?a15 ?l15 ?d15 ?k15 ?a16 ?l16 ?d16 ?k16 ?a17 ?l17 ?d17 ?k17 ?a18 ?l18 ?d18 ?k18 ?a19 ?l19 ?d19 ?k19 ?a20 ?l20 ?d20 ?k20 ?a21 ?l21 ?d21 ?k21 ?a22 ?l22 ?d22 ?k22 ?z0 ?z1 ?z2 ?z3 ?z4 ?z5 ?z6 ?z7 ?z8 ?A_PlaneError ?A_OffBoard ?A_NotAPath ?cls_clear ?cls_super ?cls_top ?cls_n ?cls_t ?ga_OffBoard ?gg_OffBoard ?eC_OffBoard ?hC_OffBoard ?ic_OffBoard ?tc_OffBoard ?ca_OffBoard ?mo_OffBoard ?xL_OffBoard ?sa_OffBoard ?kC_OffBoard ?iI_OffBoard ?tI_OffBoard ?lI_OffBoard ?cd_OffBoard ?lc_OffBoard ?lv_OffBoard ?lf_OffBoard ?le_OffBoard ?ms_OffBoard ?al_OffBoard ?iv_OffBoard ?ga_NotAPath ?gg_NotAPath ?eC_NotAPath ?hC_NotAPath ?ic_NotAPath ?tc_NotAPath ?ca_NotAPath ?mo_NotAPath ?xL_NotAPath ?sa_NotAPath ?kC_NotAPath ?iI_NotAPath ?tI_NotAPath ?lI_NotAPath ?cd_NotAPath ?lc_NotAPath ?lv_NotAPath ?lf_NotAPath ?le_NotAPath ?ms_NotAPath ?al_NotAPath ?iv_NotAPath ?f_OffBoard_corner ?f_NotAPath_index ?sc_OffBoard ?sc_NotAPath ?sx_NotAPath_OffBoard ?i_OffBoard_PlaneError ?i_OffBoard_ValueError ?i_OffBoard_NotAPath ?i_NotAPath_PlaneError ?i_NotAPath_ValueError ?i_NotAPath_OffBoard ?a_DIRECTIONS ?l_DIRECTIONS ?y0_DIRECTIONS ?w0_DIRECTIONS ?y1_DIRECTIONS ?w1_DIRECTIONS ?y2_DIRECTIONS ?w2_DIRECTIONS ?y3_DIRECTIONS ?w3_DIRECTIONS ?n_DIRECTIONS
    (case a0 => k_is)
    (case l0 => k_is)
    (case d0 => k_is)
    (case k0 => k_is)
    (case a1 => k_is)
    (case l1 => k_is)
    (case d1 => k_is)
    (case k1 => k_is)
    (case a2 => k_is)
    (case l2 => k_is)
    (case d2 => k_is)
    (case k2 => k_is)
    (case a3 => k_is)
    (case l3 => k_is)
    (case d3 => k_is)
    (case k3 => k_is)
    (case a4 => k_is)
    (case l4 => k_is)
    (case d4 => k_is)
    (case k4 => k_is)
    (case a5 => k_is)
    (case l5 => k_is)
    (case d5 => k_is)
    (case k5 => k_is)
    (case a6 => k_is)
    (case l6 => k_is)
    (case d6 => k_is)
    (case k6 => k_is)
    (case a7 => k_is)
    (case l7 => k_is)
    (case d7 => k_is)
    (case k7 => k_is)
    (case a8 => k_is)
    (case l8 => k_is)
    (case d8 => k_is)
    (case k8 => k_is)
    (case a9 => k_is)
    (case l9 => k_is)
    (case d9 => k_is)
    (case k9 => k_is)
    (case a10 => k_is)
    (case l10 => k_is)
    (case d10 => k_is)
    (case k10 => k_is)
    (case a11 => k_is)
    (case l11 => k_is)
    (case d11 => k_is)
    (case k11 => k_is)
    (case a12 => k_is)
    (case l12 => k_is)
    (case d12 => k_is)
    (case k12 => k_is)
    (case a13 => k_is)
    (case l13 => k_is)
    (case d13 => k_is)
    (case k13 => k_is)
    (case a14 => k_is)
    (case l14 => k_is)
    (case d14 => k_is)
    (case k14 => k_is)
    (case a15 => k_is)
    (case l15 => k_is)
    (case d15 => k_is)
    (case k15 => k_is)
    (case a16 => k_is)
    (case l16 => k_is)
    (case d16 => k_is)
    (case k16 => k_is)
    (case a17 => k_is)
    (case l17 => k_is)
    (case d17 => k_is)
    (case k17 => k_is)
    (case a18 => k_is)
    (case l18 => k_is)
    (case d18 => k_is)
    (case k18 => k_is)
    (case a19 => k_is)
    (case l19 => k_is)
    (case d19 => k_is)
    (case k19 => k_is)
    (case a20 => k_is)
    (case l20 => k_is)
    (case d20 => k_is)
    (case k20 => k_is)
    (case a21 => k_is)
    (case l21 => k_is)
    (case d21 => k_is)
    (case k21 => k_is)
    (case a22 => k_is)
    (case l22 => k_is)
    (case d22 => k_is)
    (case k22 => k_is)
    (case z0 => k_is)
    (case z1 => k_is)
    (case z2 => k_is)
    (case z3 => k_is)
    (case z4 => k_is)
    (case z5 => k_is)
    (case z6 => k_is)
    (case z7 => k_is)
    (case z8 => k_is)
    (case A_PlaneError => k_is)
    (case A_OffBoard => k_is)
    (case A_NotAPath => k_is)
    (case cls_clear => k_is)
    (case cls_super => k_is)
    (case cls_top => first | rfl | decide +kernel)
    (case cls_n => k_is)
    (case cls_t => k_is)
    (case ga_OffBoard => k_is)
    (case gg_OffBoard => k_is)
    (case eC_OffBoard => k_is)
    (case hC_OffBoard => k_is)
    (case ic_OffBoard => k_is)
    (case tc_OffBoard => k_is)
    (case ca_OffBoard => k_is)
    (case mo_OffBoard => k_is)
    (case xL_OffBoard => k_is)
    (case sa_OffBoard => k_is)
    (case kC_OffBoard => k_is)
    (case iI_OffBoard => k_is)
    (case tI_OffBoard => k_is)
    (case lI_OffBoard => k_is)
    (case cd_OffBoard => k_is)
    (case lc_OffBoard => k_is)
    (case lv_OffBoard => rfl)
    (case lf_OffBoard => first | rfl | decide +kernel)
    (case le_OffBoard => k_is)
    (case ms_OffBoard => k_is)
    (case al_OffBoard => first | ks_is | k_is)
    (case iv_OffBoard => k_is)
    (case ga_NotAPath => k_is)
    (case gg_NotAPath => k_is)
    (case eC_NotAPath => k_is)
    (case hC_NotAPath => k_is)
    (case ic_NotAPath => k_is)
    (case tc_NotAPath => k_is)
    (case ca_NotAPath => k_is)
    (case mo_NotAPath => k_is)
    (case xL_NotAPath => k_is)
    (case sa_NotAPath => k_is)
    (case kC_NotAPath => k_is)
    (case iI_NotAPath => k_is)
    (case tI_NotAPath => k_is)
    (case lI_NotAPath => k_is)
    (case cd_NotAPath => k_is)
    (case lc_NotAPath => k_is)
    (case lv_NotAPath => rfl)
    (case lf_NotAPath => first | rfl | decide +kernel)
    (case le_NotAPath => k_is)
    (case ms_NotAPath => k_is)
    (case al_NotAPath => first | ks_is | k_is)
    (case iv_NotAPath => k_is)
    (case f_OffBoard_corner => k_is)
    (case f_NotAPath_index => k_is)
    (case sc_OffBoard => k_is)
    (case sc_NotAPath => k_is)
    (case sx_NotAPath_OffBoard => k_is)
    (case i_OffBoard_PlaneError => first | kit_is | k_is)
    (case i_OffBoard_ValueError => first | kit_is | k_is)
    (case i_OffBoard_NotAPath => first | kit_is | k_is)
    (case i_NotAPath_PlaneError => first | kit_is | k_is)
    (case i_NotAPath_ValueError => first | kit_is | k_is)
    (case i_NotAPath_OffBoard => first | kit_is | k_is)
    (case a_DIRECTIONS => k_is)
    (case l_DIRECTIONS => k_is)
    (case y0_DIRECTIONS => k_is)
    (case w0_DIRECTIONS => exact DD.hash_lit (by decide +kernel))
    (case y1_DIRECTIONS => k_is)
    (case w1_DIRECTIONS => exact DD.hash_lit (by decide +kernel))
    (case y2_DIRECTIONS => k_is)
    (case w2_DIRECTIONS => exact DD.hash_lit (by decide +kernel))
    (case y3_DIRECTIONS => k_is)
    (case w3_DIRECTIONS => exact DD.hash_lit (by decide +kernel))
    (case n_DIRECTIONS => first | rfl | decide +kernel)
