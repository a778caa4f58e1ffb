/-
  Copies of a row; slices.Clone of a row; package bits: With; the document's own With.
-/
import Derived.Test.YtomjajmjooaegaaBitsRef
import Derived.Lib.AppendZeros
namespace Go.Proofs.Ytomjajmjooaegaa
open Go.RowKit Plain
set_option linter.unusedVariables false

/-- A row that the call itself owns, or none. -/
def OwnT (base : Nat) (w : World) (a : Option Addr) (cap : Nat) (l : List Bool) : Prop :=
  (a = none ∧ cap = 0 ∧ l = []) ∨ ∃ g, a = some ⟨g, 0, none⟩ ∧ base ≤ g ∧ RowT w g cap l

theorem OwnT.isB {base : Nat} {w : World} {a : Option Addr} {cap : Nat} {l : List Bool} (h : OwnT base w a cap l) : IsB w a cap l := by
  rcases h with ⟨rfl, rfl, rfl⟩ | ⟨g, rfl, _, hr⟩
  · exact IsB_nil _
  · exact hr.isB

theorem OwnT.below {base : Nat} {w w' : World} {a : Option Addr} {cap : Nat} {l : List Bool} (h : OwnT base w a cap l) (hb : Below w.heap.size w w') : OwnT base w' a cap l := by
  rcases h with h | ⟨g, h1, h2, hr⟩
  · exact .inl h
  · exact .inr ⟨g, h1, h2, hr.below hb⟩

theorem OwnT.some {base : Nat} {w : World} {a : Option Addr} {cap : Nat} {l : List Bool} (h : OwnT base w a cap l) (hl : 0 < l.length) : ∃ g, a = some ⟨g, 0, none⟩ ∧ base ≤ g ∧ RowT w g cap l := by
  rcases h with ⟨_, _, rfl⟩ | h
  · cases hl
  · exact h

theorem isB_src {w : World} {ad : Addr} {c : Nat} {l : List Bool} (h : IsB w (some ad) c l) : ∀ j u, (l.map Value.bool)[j]? = some u → w.cell? (ad.add j) = some u := by
  intro j u hj
  rw [List.getElem?_map] at hj
  obtain ⟨x, hx, rfl⟩ := Option.map_eq_some_iff.1 hj
  obtain ⟨b', o', ha, _, hc⟩ := h.2.2 j x hx
  cases ha
  rw [at_add]
  exact hc

theorem run_append_none {w : World} (base : Nat) (t ty e : TypeId) (i : TypeInfo) (size m c : Nat) (hm : m = 0) (ht : Try.prog.underlying t = some (.slice e)) (hi : Try.prog.info? e = some i)
    (v : Value) (n : Nat) (xs : List Value) (hown : w.ownsRow base e size v n xs) :
    (Builtin.append_ #[t, t] ty #[v, .slice none m c]).run Try.prog w = .ok v w := by
  subst hm
  rcases hown.2 with ⟨rfl, rfl⟩ | ⟨g, cap, cur, rfl, _, _, hnc, _⟩
  · simp [Builtin.append_, run_underlying ht, sizeOf, typeInfo, hi, Builtin.lenOf, Builtin.firstCells]
  · simp [Builtin.append_, run_underlying ht, sizeOf, typeInfo, hi, Builtin.lenOf, Builtin.firstCells, hnc, storeCells]

/-- 'append([]bool{}, l...)': a row of the call's own. -/
theorem copyT (W : World) (a : Option Addr) (c n : Nat) (l : List Bool) (hn : n = l.length) (hB : IsB W a c l) (hz : n ≤ 140737488355328) (ty : TypeId) :
    ∃ g cap w', (Builtin.append_ #[22, 22] ty #[.slice (some ⟨W.heap.size, 0, none⟩) 0 0, .slice a n c]).run Try.prog (W.alloc (.cells #[] 4)) = .ok (.slice (some ⟨g, 0, none⟩) n cap) w' ∧ W.heap.size ≤ g ∧ RowT w' g cap l ∧ Below W.heap.size W w' := by
  subst hn
  obtain ⟨i0, hi, hz0, hz1, hz2⟩ := info_parts Try.info4
  have hown := World.ownsRow_made (base := W.heap.size) (e := 4) (size := 1) W #[] 0 (Nat.le_refl _) (Nat.zero_le _) rfl
  have hB0 := (Below.refl W.heap.size W).alloc (Nat.le_refl _) (.cells #[] 4)
  cases a with
  | none =>
    have h0 : l = [] := by
      rcases Nat.eq_zero_or_pos l.length with h | h
      · exact List.length_eq_zero_iff.1 h
      · obtain ⟨b, o, hh, _⟩ := hB.some h
        cases hh
    subst h0
    refine ⟨W.heap.size, 0, _, run_append_none W.heap.size _ ty _ i0 1 0 c rfl Try.underlying22 hi _ _ _ hown, Nat.le_refl _, ⟨#[], ?_, rfl, Nat.le_refl _, Nat.zero_le _, rfl⟩, hB0⟩
    exact heap_new W _
  | some ad =>
    obtain ⟨v', w', hr, h2, h3, h4⟩ := run_append_own (P := Try.prog) (W.alloc (.cells #[] 4)) W.heap.size 22 ty 4 i0 _ 1 1 Try.underlying22 hi hz0 hz1 hz2 rfl (by decide) _ 0 _ hown ad l.length c (l.map Value.bool) (by simp) (isB_src (hB.below hB0))
      (fun u hu => by obtain ⟨x, _, rfl⟩ := List.mem_map.1 hu; rfl) (by have := hB.1; have := hB.2.1; unfold maxLen at *; omega) (by omega) (by simp)
    rcases h2.2 with ⟨h, _⟩ | ⟨g, cap, cur, h, hg, hcur, hnc, hcm, hsz, htk⟩
    · exact absurd (h4.1 h).1 (by simp)
    · subst h
      refine ⟨g, cap, w', by rw [hr, Nat.zero_add], hg, ⟨cur, hcur, by simpa using htk, by omega, hcm, by omega⟩, hB0.grown h3 (by simp) (by intro k hk; simp [Value.ownBlock] at hk; omega)⟩

set_option maxHeartbeats 1000000 in
theorem clone_any (a : Option Addr) (c n : Nat) (l : List Bool) (w : World) (hn : n = l.length) (hB : IsB w a c l) (h2 : n ≤ 4096) :
    Calls Try.prog 29 #[.slice a n c] w fun e w' => ∃ a' cap, e = .returned (.slice a' n cap) ∧ OwnT w.heap.size w' a' cap l ∧ Below w.heap.size w w' := by
  have q : ∀ (w : World) (a : Option Addr) (n c n' c' : Nat), (binOp .eql 22 (.slice a n c) (.slice none n' c')).run Try.prog w = .ok (.bool a.isNone) w := fun w a n c n' c' => Lib.run_eql_slice_nil w _ _ a n c n' c' Try.underlying22
  cases a with
  | none =>
    have h0 : l = [] := by
      rcases Nat.eq_zero_or_pos l.length with h | h
      · exact List.length_eq_zero_iff.1 h
      · obtain ⟨b, o, hh, _⟩ := hB.some h
        cases hh
    subst h0
    obtain rfl : n = 0 := hn
    clear hB
    go_enter Try.func29, Try.ntmps29
    go_wp2
    go_ret
    exact ⟨none, 0, rfl, .inl ⟨rfl, rfl, rfl⟩, Below.refl _ _⟩
  | some ad =>
    obtain ⟨g, cap, w1, hrun, hg, hrow, hb⟩ := copyT w (some ad) c n l hn hB (by omega) 22
    have HR : Hid (RowT w1 g cap l) := hrow
    clear hrow hB hn
    go_enter Try.func29, Try.ntmps29
    go_wp2_with (at_builtin; refine Lib.wpList_append_run _ rfl _ _ _ _ rfl _ _ rfl rfl _ _ hrun ?_)
    go_ret
    exact ⟨some ⟨g, 0, none⟩, cap, rfl, .inr ⟨g, rfl, hg, HR.out⟩, hb⟩

theorem placesOk_take {l : List Bool} {ps : List Int} {j : Nat} {p : Int} (h : placesOk l (ps.take j) = true) (hp : ps[j]? = some p) (h0 : 0 ≤ p) (h1 : p < l.length) : placesOk l (ps.take (j + 1)) = true := by
  unfold placesOk at h ⊢
  rw [List.take_add_one, hp, List.all_append, h]
  simp [h0, h1]

theorem placesOk_bad {l : List Bool} {ps : List Int} {j : Nat} {p : Int} (hp : ps[j]? = some p) (h : p < 0 ∨ (l.length : Int) ≤ p) : placesOk l ps = false := by
  unfold placesOk
  rw [List.all_eq_false]
  refine ⟨p, List.mem_of_getElem? hp, ?_⟩
  simp
  omega

theorem setB_take (l : List Bool) (is : Bool) {ps : List Int} {j : Nat} {p : Int} (hp : ps[j]? = some p) : setB l is (ps.take (j + 1)) = (setB l is (ps.take j)).set p.toNat is := by
  rw [List.take_add_one, hp, setB_append]; rfl

theorem withE_bad {l : List Bool} {ps : List Int} (h : placesOk l ps = false) : withE l ps = 1 := by unfold withE; rw [h]; rfl
theorem withL_bad {l : List Bool} {is : Bool} {ps : List Int} (h : placesOk l ps = false) : withL l is ps = [] := by unfold withL; rw [h]; rfl
theorem withE_ok {l : List Bool} {ps : List Int} (h : placesOk l ps = true) : withE l ps = 0 := by unfold withE; rw [h]; rfl
theorem withL_ok {l : List Bool} {is : Bool} {ps : List Int} (h : placesOk l ps = true) : withL l is ps = setB l is ps := by unfold withL; rw [h]; rfl

set_option maxRecDepth 20000 in
set_option maxHeartbeats 1000000 in
/-- WITH, at all places, of rows that are not too long to be copied. -/
theorem with_own (a ap : Option Addr) (c cp : Nat) (l : List Bool) (is : Bool) (ps : List Int) (w : World) (hB : IsB w a c l) (hI : IsI w ap cp ps) (hl : l.length ≤ 4096) :
    Calls Try.prog 27 #[.slice a l.length c, .bool is, .slice ap ps.length cp] w fun e w' => ∃ a' c', e = .returned (.tuple #[.slice a' (withL l is ps).length c', .int .i64 (withE l ps)]) ∧ OwnT w.heap.size w' a' c' (withL l is ps) ∧ Below w.heap.size w w' := by
  obtain ⟨n, hn⟩ : ∃ n, n = l.length := ⟨_, rfl⟩
  obtain ⟨k, hk⟩ : ∃ n, n = ps.length := ⟨_, rfl⟩
  have hkb : k ≤ 9223372036854775807 := by rw [hk]; exact Nat.le_trans hI.1 hI.2.1
  have hnb : n ≤ 4096 := by omega
  have HI : Hid (IsI w ap cp ps) := hI
  have HN : Hid (n = l.length) := hn
  have HK : Hid (k = ps.length) := hk
  have cc := clone_any a c n l w hn hB hnb
  rw [← hn, ← hk]
  clear hB hI hn hk hl
  go_enter Try.func27, Try.ntmps27
  go_wp2_with (go_at_call 29; refine cc.mono ?_; rintro e w1 ⟨a1, d1, rfl, ho, hb⟩; have HO : Hid (OwnT w.heap.size w1 a1 d1 l) := ho; clear ho cc)
  go_loopw [15] (fun v wr => ∃ j : Nat, j ≤ k ∧ v = .int .i64 j ∧ placesOk l (ps.take j) = true ∧ OwnT w.heap.size wr a1 d1 (setB l is (ps.take j)) ∧ Below w.heap.size w wr) (fun v _ => k - (intOf v).toNat)
  case atStart => exact ⟨0, by omega, rfl, rfl, HO.out, hb⟩
  case round =>
    obtain ⟨j, hj, rfl, hok, hown, hbel⟩ := hrel
    have HO1 : Hid (OwnT w.heap.size wr a1 d1 (setB l is (ps.take j))) := hown
    have HK1 : Hid (placesOk l (ps.take j) = true) := hok
    clear hown hok
    by_cases hlt : j < k
    · have hlt' : (j : Int) < k := by omega
      obtain ⟨p, hp⟩ : ∃ p, Hid (ps[j]? = some p) := ⟨_, List.getElem?_eq_getElem (by rw [← HK.out]; exact hlt)⟩
      obtain ⟨b, o, rfl, hbl, hc0⟩ := HI.out.2.2 j p hp.out
      have hc := cell_below hbel hc0
      by_cases h0 : p < 0
      · have hE : Hid (placesOk l ps = false) := placesOk_bad hp.out (.inl h0)
        go_wp2
        go_ret2
        exact ⟨none, 0, by rw [withE_bad hE.out, withL_bad hE.out]; rfl, by rw [withL_bad hE.out]; exact .inl ⟨rfl, rfl, rfl⟩, hbel⟩
      · by_cases h1 : (n : Int) ≤ p
        · have hE : Hid (placesOk l ps = false) := placesOk_bad hp.out (.inr (by rw [← HN.out]; exact h1))
          go_wp2
          go_ret2
          exact ⟨none, 0, by rw [withE_bad hE.out, withL_bad hE.out]; rfl, by rw [withL_bad hE.out]; exact .inl ⟨rfl, rfl, rfl⟩, hbel⟩
        · obtain ⟨q, rfl⟩ : ∃ q : Nat, p = q := ⟨p.toNat, by omega⟩
          have hqn : q < n := by omega
          have hqn' : (q : Int) < n := by omega
          have hql : q < (setB l is (ps.take j)).length := by rw [setB_length, ← HN.out]; exact hqn
          obtain ⟨g, rfl, hg, hrow⟩ := HO1.out.some (by omega)
          obtain ⟨hcx, hfx⟩ := hrow.cell (List.getElem?_eq_getElem hql)
          generalize (setB l is (ps.take j))[q]'_ = x at hcx
          have hset : Hid (OwnT w.heap.size (wr.setCell ⟨g, q, none⟩ (.bool is)) (some ⟨g, 0, none⟩) d1 (setB l is (ps.take (j + 1)))) := by
            rw [setB_take l is hp.out]
            exact .inr ⟨g, rfl, hg, hrow.set q is⟩
          have hok2 : Hid (placesOk l (ps.take (j + 1)) = true) := placesOk_take HK1.out hp.out (by omega) (by rw [← HN.out]; exact hqn')
          clear hrow
          go_wp2
          go_roundw
          case rel => exact ⟨j + 1, by omega, by go_num, hok2.out, hset.out, hbel.setCell (p := ⟨g, q, none⟩) hg _⟩
          case measure => simp [intOf]; omega
    · obtain rfl : j = k := by omega
      have hE : Hid (placesOk l ps = true) := by have := HK1.out; rw [HK.out, List.take_length] at this; exact this
      have hS : Hid (OwnT w.heap.size wr a1 d1 (setB l is ps)) := by have := HO1.out; rw [HK.out, List.take_length] at this; exact this
      go_wp2
      go_ret2
      exact ⟨a1, d1, by rw [withE_ok hE.out, withL_ok hE.out, setB_length, ← HN.out]; rfl, by rw [withL_ok hE.out]; exact hS.out, hbel⟩

theorem with_any (a ap : Option Addr) (c cp : Nat) (l : List Bool) (is : Bool) (ps : List Int) (w : World) (hB : IsB w a c l) (hI : IsI w ap cp ps) (hl : l.length ≤ 4096) :
    Calls Try.prog 27 #[.slice a l.length c, .bool is, .slice ap ps.length cp] w fun e w' => ∃ a' c', e = .returned (.tuple #[.slice a' (withL l is ps).length c', .int .i64 (withE l ps)]) ∧ IsB w' a' c' (withL l is ps) ∧ Below w.heap.size w w' :=
  (with_own a ap c cp l is ps w hB hI hl).mono fun e w' ⟨a', c', h1, h2, h3⟩ => ⟨a', c', h1, h2.isB, h3⟩

end Go.Proofs.Ytomjajmjooaegaa
