/-
  Copies of a row; slices.Clone of a row; package bits: With; the document's own With.
-/
import Derived.Test.YtkfapldicjmelaaBitsRef
import Derived.Lib.AppendZeros
namespace Go.Proofs.Ytkfapldicjmelaa
open Go.RowKit Plain
set_option linter.unusedVariables false

/-- A row that the call itself owns, or none. -/
def OwnT (base : Nat) (w : World) (a : Option Addr) (cap : Nat) (l : List Bool) : Prop :=
  (a = none ∧ cap = 0 ∧ l = []) ∨ ∃ g, a = some ⟨g, 0, none⟩ ∧ base ≤ g ∧ RowT w g cap l

theorem OwnT.isB {base : Nat} {w : World} {a : Option Addr} {cap : Nat} {l : List Bool} (h : OwnT base w a cap l) : IsB w a cap l := by
  rcases h with ⟨rfl, rfl, rfl⟩ | ⟨g, rfl, _, hr⟩
  · exact IsB_nil _
  · exact hr.isB

theorem OwnT.below {base : Nat} {w w' : World} {a : Option Addr} {cap : Nat} {l : List Bool} (h : OwnT base w a cap l) (hb : Below w.heap.size w w') : OwnT base w' a cap l := by
  rcases h with h | ⟨g, h1, h2, hr⟩
  · exact .inl h
  · exact .inr ⟨g, h1, h2, hr.below hb⟩

theorem OwnT.some {base : Nat} {w : World} {a : Option Addr} {cap : Nat} {l : List Bool} (h : OwnT base w a cap l) (hl : 0 < l.length) : ∃ g, a = some ⟨g, 0, none⟩ ∧ base ≤ g ∧ RowT w g cap l := by
  rcases h with ⟨_, _, rfl⟩ | h
  · cases hl
  · exact h

theorem isB_src {w : World} {ad : Addr} {c : Nat} {l : List Bool} (h : IsB w (some ad) c l) : ∀ j u, (l.map Value.bool)[j]? = some u → w.cell? (ad.add j) = some u := by
  intro j u hj
  rw [List.getElem?_map] at hj
  obtain ⟨x, hx, rfl⟩ := Option.map_eq_some_iff.1 hj
  obtain ⟨b', o', ha, _, hc⟩ := h.2.2 j x hx
  cases ha
  rw [at_add]
  exact hc

theorem run_append_none {w : World} (base : Nat) (t ty e : TypeId) (i : TypeInfo) (size m c : Nat) (hm : m = 0) (ht : Try.prog.underlying t = some (.slice e)) (hi : Try.prog.info? e = some i)
    (v : Value) (n : Nat) (xs : List Value) (hown : w.ownsRow base e size v n xs) :
    (Builtin.append_ #[t, t] ty #[v, .slice none m c]).run Try.prog w = .ok v w := by
  subst hm
  rcases hown.2 with ⟨rfl, rfl⟩ | ⟨g, cap, cur, rfl, _, _, hnc, _⟩
  · simp [Builtin.append_, run_underlying ht, sizeOf, typeInfo, hi, Builtin.lenOf, Builtin.firstCells]
  · simp [Builtin.append_, run_underlying ht, sizeOf, typeInfo, hi, Builtin.lenOf, Builtin.firstCells, hnc, storeCells]

/-- 'append([]bool{}, l...)': a row of the call's own. -/
theorem copyT (W : World) (a : Option Addr) (c n : Nat) (l : List Bool) (hn : n = l.length) (hB : IsB W a c l) (hz : n ≤ 140737488355328) (ty : TypeId) :
    ∃ g cap w', (Builtin.append_ #[22, 22] ty #[.slice (some ⟨W.heap.size, 0, none⟩) 0 0, .slice a n c]).run Try.prog (W.alloc (.cells #[] 4)) = .ok (.slice (some ⟨g, 0, none⟩) n cap) w' ∧ W.heap.size ≤ g ∧ RowT w' g cap l ∧ Below W.heap.size W w' := by
  subst hn
  obtain ⟨i0, hi, hz0, hz1, hz2⟩ := info_parts Try.info4
  have hown := World.ownsRow_made (base := W.heap.size) (e := 4) (size := 1) W #[] 0 (Nat.le_refl _) (Nat.zero_le _) rfl
  have hB0 := (Below.refl W.heap.size W).alloc (Nat.le_refl _) (.cells #[] 4)
  cases a with
  | none =>
    have h0 : l = [] := by
      rcases Nat.eq_zero_or_pos l.length with h | h
      · exact List.length_eq_zero_iff.1 h
      · obtain ⟨b, o, hh, _⟩ := hB.some h
        cases hh
    subst h0
    refine ⟨W.heap.size, 0, _, run_append_none W.heap.size _ ty _ i0 1 0 c rfl Try.underlying22 hi _ _ _ hown, Nat.le_refl _, ⟨#[], ?_, rfl, Nat.le_refl _, Nat.zero_le _, rfl⟩, hB0⟩
    exact heap_new W _
  | some ad =>
    obtain ⟨v', w', hr, h2, h3, h4⟩ := run_append_own (P := Try.prog) (W.alloc (.cells #[] 4)) W.heap.size 22 ty 4 i0 _ 1 1 Try.underlying22 hi hz0 hz1 hz2 rfl (by decide) _ 0 _ hown ad l.length c (l.map Value.bool) (by simp) (isB_src (hB.below hB0))
      (fun u hu => by obtain ⟨x, _, rfl⟩ := List.mem_map.1 hu; rfl) (by have := hB.1; have := hB.2.1; unfold maxLen at *; omega) (by omega) (by simp)
    rcases h2.2 with ⟨h, _⟩ | ⟨g, cap, cur, h, hg, hcur, hnc, hcm, hsz, htk⟩
    · exact absurd (h4.1 h).1 (by simp)
    · subst h
      refine ⟨g, cap, w', by rw [hr, Nat.zero_add], hg, ⟨cur, hcur, by simpa using htk, by omega, hcm, by omega⟩, hB0.grown h3 (by simp) (by intro k hk; simp [Value.ownBlock] at hk; omega)⟩

set_option maxHeartbeats 1000000 in
theorem clone_any (a : Option Addr) (c n : Nat) (l : List Bool) (w : World) (hn : n = l.length) (hB : IsB w a c l) (h2 : n ≤ 4096) :
    Calls Try.prog 32 #[.slice a n c] w fun e w' => ∃ a' cap, e = .returned (.slice a' n cap) ∧ OwnT w.heap.size w' a' cap l ∧ Below w.heap.size w w' := by
  have q : ∀ (w : World) (a : Option Addr) (n c n' c' : Nat), (binOp .eql 22 (.slice a n c) (.slice none n' c')).run Try.prog w = .ok (.bool a.isNone) w := fun w a n c n' c' => Lib.run_eql_slice_nil w _ _ a n c n' c' Try.underlying22
  cases a with
  | none =>
    have h0 : l = [] := by
      rcases Nat.eq_zero_or_pos l.length with h | h
      · exact List.length_eq_zero_iff.1 h
      · obtain ⟨b, o, hh, _⟩ := hB.some h
        cases hh
    subst h0
    obtain rfl : n = 0 := hn
    clear hB
    go_enter Try.func32, Try.ntmps32
    go_wp2
    go_ret
    exact ⟨none, 0, rfl, .inl ⟨rfl, rfl, rfl⟩, Below.refl _ _⟩
  | some ad =>
    obtain ⟨g, cap, w1, hrun, hg, hrow, hb⟩ := copyT w (some ad) c n l hn hB (by omega) 22
    have HR : Hid (RowT w1 g cap l) := hrow
    clear hrow hB hn
    go_enter Try.func32, Try.ntmps32
    go_wp2_with (at_builtin; refine Lib.wpList_append_run _ rfl _ _ _ _ rfl _ _ rfl rfl _ _ hrun ?_)
    go_ret
    exact ⟨some ⟨g, 0, none⟩, cap, rfl, .inr ⟨g, rfl, hg, HR.out⟩, hb⟩

theorem placesOk_take {l : List Bool} {ps : List Int} {j : Nat} {p : Int} (h : placesOk l (ps.take j) = true) (hp : ps[j]? = some p) (h0 : 0 ≤ p) (h1 : p < l.length) : placesOk l (ps.take (j + 1)) = true := by
  unfold placesOk at h ⊢
  rw [List.take_add_one, hp, List.all_append, h]
  simp [h0, h1]

theorem placesOk_bad {l : List Bool} {ps : List Int} {j : Nat} {p : Int} (hp : ps[j]? = some p) (h : p < 0 ∨ (l.length : Int) ≤ p) : placesOk l ps = false := by
  unfold placesOk
  rw [List.all_eq_false]
  refine ⟨p, List.mem_of_getElem? hp, ?_⟩
  simp
  omega

theorem setB_take (l : List Bool) (is : Bool) {ps : List Int} {j : Nat} {p : Int} (hp : ps[j]? = some p) : setB l is (ps.take (j + 1)) = (setB l is (ps.take j)).set p.toNat is := by
  rw [List.take_add_one, hp, setB_append]; rfl

theorem withE_bad {l : List Bool} {ps : List Int} (h : placesOk l ps = false) : withE l ps = 1 := by unfold withE; rw [h]; rfl
theorem withL_bad {l : List Bool} {is : Bool} {ps : List Int} (h : placesOk l ps = false) : withL l is ps = [] := by unfold withL; rw [h]; rfl
theorem withE_ok {l : List Bool} {ps : List Int} (h : placesOk l ps = true) : withE l ps = 0 := by unfold withE; rw [h]; rfl
theorem withL_ok {l : List Bool} {is : Bool} {ps : List Int} (h : placesOk l ps = true) : withL l is ps = setB l is ps := by unfold withL; rw [h]; rfl

set_option maxRecDepth 20000 in
set_option maxHeartbeats 1000000 in
/-- WITH, at all places, of rows that are not too long to be copied. -/
theorem with_any (a ap : Option Addr) (c cp : Nat) (l : List Bool) (is : Bool) (ps : List Int) (w : World) (hB : IsB w a c l) (hI : IsI w ap cp ps) (hl : l.length ≤ 4096) :
    Calls Try.prog 20 #[.slice a l.length c, .bool is, .slice ap ps.length cp] w fun e w' => ∃ a' c', e = .returned (.tuple #[.slice a' (withL l is ps).length c', .int .i64 (withE l ps)]) ∧ IsB w' a' c' (withL l is ps) ∧ Below w.heap.size w w' := by
  obtain ⟨n, hn⟩ : ∃ n, n = l.length := ⟨_, rfl⟩
  obtain ⟨k, hk⟩ : ∃ n, n = ps.length := ⟨_, rfl⟩
  have hkb : k ≤ 9223372036854775807 := by rw [hk]; exact Nat.le_trans hI.1 hI.2.1
  have hnb : n ≤ 4096 := by omega
  have HI : Hid (IsI w ap cp ps) := hI
  have HN : Hid (n = l.length) := hn
  have HK : Hid (k = ps.length) := hk
  have cc := clone_any a c n l w hn hB hnb
  rw [← hn, ← hk]
  clear hB hI hn hk hl
  go_enter Try.func20, Try.ntmps20
  go_wp2_with (go_at_call 32; refine cc.mono ?_; rintro e w1 ⟨a1, d1, rfl, ho, hb⟩; have HO : Hid (OwnT w.heap.size w1 a1 d1 l) := ho; clear ho cc)
  go_loopw [15] (fun v wr => ∃ j : Nat, j ≤ k ∧ v = .int .i64 j ∧ placesOk l (ps.take j) = true ∧ OwnT w.heap.size wr a1 d1 (setB l is (ps.take j)) ∧ Below w.heap.size w wr) (fun v _ => k - (intOf v).toNat)
  case atStart => exact ⟨0, by omega, rfl, rfl, HO.out, hb⟩
  case round =>
    obtain ⟨j, hj, rfl, hok, hown, hbel⟩ := hrel
    have HO1 : Hid (OwnT w.heap.size wr a1 d1 (setB l is (ps.take j))) := hown
    have HK1 : Hid (placesOk l (ps.take j) = true) := hok
    clear hown hok
    by_cases hlt : j < k
    · have hlt' : (j : Int) < k := by omega
      obtain ⟨p, hp⟩ : ∃ p, Hid (ps[j]? = some p) := ⟨_, List.getElem?_eq_getElem (by rw [← HK.out]; exact hlt)⟩
      obtain ⟨b, o, rfl, hbl, hc0⟩ := HI.out.2.2 j p hp.out
      have hc := cell_below hbel hc0
      by_cases h0 : p < 0
      · have hE : Hid (placesOk l ps = false) := placesOk_bad hp.out (.inl h0)
        go_wp2
        go_ret2
        exact ⟨none, 0, by rw [withE_bad hE.out, withL_bad hE.out]; rfl, by rw [withL_bad hE.out]; exact IsB_nil _, hbel⟩
      · by_cases h1 : (n : Int) ≤ p
        · have hE : Hid (placesOk l ps = false) := placesOk_bad hp.out (.inr (by rw [← HN.out]; exact h1))
          go_wp2
          go_ret2
          exact ⟨none, 0, by rw [withE_bad hE.out, withL_bad hE.out]; rfl, by rw [withL_bad hE.out]; exact IsB_nil _, hbel⟩
        · obtain ⟨q, rfl⟩ : ∃ q : Nat, p = q := ⟨p.toNat, by omega⟩
          have hqn : q < n := by omega
          have hqn' : (q : Int) < n := by omega
          have hql : q < (setB l is (ps.take j)).length := by rw [setB_length, ← HN.out]; exact hqn
          obtain ⟨g, rfl, hg, hrow⟩ := HO1.out.some (by omega)
          obtain ⟨hcx, hfx⟩ := hrow.cell (List.getElem?_eq_getElem hql)
          generalize (setB l is (ps.take j))[q]'_ = x at hcx
          have hset : Hid (OwnT w.heap.size (wr.setCell ⟨g, q, none⟩ (.bool is)) (some ⟨g, 0, none⟩) d1 (setB l is (ps.take (j + 1)))) := by
            rw [setB_take l is hp.out]
            exact .inr ⟨g, rfl, hg, hrow.set q is⟩
          have hok2 : Hid (placesOk l (ps.take (j + 1)) = true) := placesOk_take HK1.out hp.out (by omega) (by rw [← HN.out]; exact hqn')
          clear hrow
          go_wp2
          go_roundw
          case rel => exact ⟨j + 1, by omega, by go_num, hok2.out, hset.out, hbel.setCell (p := ⟨g, q, none⟩) hg _⟩
          case measure => simp [intOf]; omega
    · obtain rfl : j = k := by omega
      have hE : Hid (placesOk l ps = true) := by have := HK1.out; rw [HK.out, List.take_length] at this; exact this
      have hS : Hid (OwnT w.heap.size wr a1 d1 (setB l is ps)) := by have := HO1.out; rw [HK.out, List.take_length] at this; exact this
      go_wp2
      go_ret2
      exact ⟨a1, d1, by rw [withE_ok hE.out, withL_ok hE.out, setB_length, ← HN.out]; rfl, by rw [withL_ok hE.out]; exact hS.out.isB, hbel⟩

/-! The document's own -/

/-- What stands at a place of a row behind the first so many places set. -/
def vN (x is : Bool) (i : Nat) : List Int → Bool
  | [] => x
  | p :: ps => vN (if p = i then is else x) is i ps

theorem vN_append (x is : Bool) (i : Nat) (ps qs : List Int) : vN x is i (ps ++ qs) = vN (vN x is i ps) is i qs := by
  induction ps generalizing x with
  | nil => rfl
  | cons p ps ih => rw [List.cons_append, vN, vN, ih]

theorem vN_take (x is : Bool) (i : Nat) {ps : List Int} {j : Nat} {p : Int} (hp : ps[j]? = some p) : vN x is i (ps.take (j + 1)) = if p = i then is else vN x is i (ps.take j) := by
  rw [List.take_add_one, hp, vN_append]; rfl

theorem vN_mem (x is : Bool) (i : Nat) (ps : List Int) : vN x is i ps = if (i : Int) ∈ ps then is else x := by
  induction ps generalizing x with
  | nil => rfl
  | cons p ps ih =>
    rw [vN, ih]
    by_cases hm : (i : Int) ∈ ps
    · rw [if_pos hm, if_pos (List.mem_cons_of_mem _ hm)]
    · rw [if_neg hm]
      by_cases e : p = i
      · rw [if_pos e, if_pos (by rw [e]; exact List.mem_cons_self)]
      · rw [if_neg e, if_neg]
        intro hh
        rcases List.mem_cons.1 hh with hh | hh
        · exact e hh.symm
        · exact hm hh

/-- The row that the document's own version makes, whatever the places are. -/
def putB (l : List Bool) (is : Bool) (ps : List Int) (j : Nat) : List Bool := (List.range j).map fun i => vN (atB l i) is i ps

theorem putB_length (l : List Bool) (is : Bool) (ps : List Int) (j : Nat) : (putB l is ps j).length = j := by simp [putB]
theorem putB_succ (l : List Bool) (is : Bool) (ps : List Int) (j : Nat) : putB l is ps (j + 1) = putB l is ps j ++ [vN (atB l j) is j ps] := by
  unfold putB; rw [List.range_succ, List.map_append]; rfl

theorem putB_all {l : List Bool} {is : Bool} {ps : List Int} (h : placesOk l ps = true) : putB l is ps l.length = setB l is ps := by
  apply List.ext_getElem?
  intro i
  by_cases hi : i < l.length
  · rw [setB_get l is ps h i hi]
    unfold putB
    rw [List.getElem?_map, List.getElem?_range hi, Option.map_some, vN_mem, atB_some (List.getElem?_eq_getElem hi)]
  · rw [List.getElem?_eq_none (by rw [putB_length]; omega), List.getElem?_eq_none (by rw [setB_length]; omega)]

set_option maxRecDepth 20000 in
set_option maxHeartbeats 2000000 in
theorem refWith_any (a ap : Option Addr) (c cp : Nat) (l : List Bool) (is : Bool) (ps : List Int) (w : World) (hB : IsB w a c l) (hI : IsI w ap cp ps) (hl : l.length ≤ 4096) :
    Calls Try.prog 21 #[.slice a l.length c, .bool is, .slice ap ps.length cp] w fun e w' => ∃ a' c', e = .returned (.tuple #[.slice a' (withL l is ps).length c', .int .i64 (withE l ps)]) ∧ IsB w' a' c' (withL l is ps) ∧ Below w.heap.size w w' := by
  obtain ⟨i0, hi, hz0, hz1, hz2⟩ := info_parts Try.info4
  obtain ⟨n, hn⟩ : ∃ n, n = l.length := ⟨_, rfl⟩
  obtain ⟨k, hk⟩ : ∃ n, n = ps.length := ⟨_, rfl⟩
  have hkb : k ≤ 9223372036854775807 := by rw [hk]; exact Nat.le_trans hI.1 hI.2.1
  have hnb : n ≤ 4096 := by omega
  have HB : Hid (IsB w a c l) := hB
  have HI : Hid (IsI w ap cp ps) := hI
  have HN : Hid (n = l.length) := hn
  have HK : Hid (k = ps.length) := hk
  rw [← hn, ← hk]
  clear hB hI hn hk hl
  go_enter Try.func21, Try.ntmps21
  go_wp2
  go_loopw [8, 18] (fun b v wr => ∃ i : Nat, i ≤ n ∧ v = .int .i64 i ∧ wr.ownsRow w.heap.size 4 1 b i ((putB l is ps i).map Value.bool) ∧ (∃ g cap, b = .slice (some ⟨g, 0, none⟩) i cap) ∧ Below w.heap.size w wr) (fun _ v _ => n - (intOf v).toNat)
  case atStart =>
    refine ⟨0, by omega, by go_num, ?_, ⟨_, _, rfl⟩, (Below.refl _ _).alloc (Nat.le_refl _) _⟩
    exact World.ownsRow_made _ _ 0 (Nat.le_refl _) (by decide) rfl
  case round =>
    obtain ⟨i, hil, rfl, hown, ⟨g, cap, rfl⟩, hbel⟩ := hrel
    have HO : Hid (World.ownsRow wr w.heap.size 4 1 (.slice (some ⟨g, 0, none⟩) i cap) i ((putB l is ps i).map Value.bool)) := hown
    clear hown
    by_cases hlt : i < n
    · have hlt' : (i : Int) < n := by omega
      have hbs := hbel.size
      obtain ⟨x, hx⟩ : ∃ x, Hid (l[i]? = some x) := ⟨_, List.getElem?_eq_getElem (by rw [← HN.out]; exact hlt)⟩
      obtain ⟨b, o, rfl, hbl, hc0⟩ := HB.out.2.2 i x hx.out
      have hc := cell_below hbel hc0
      go_wp2
      go_loopw [10, 27] (fun y v wq => ∃ (j : Nat) (z : Bool), j ≤ k ∧ v = .int .i64 j ∧ z = vN x is i (ps.take j) ∧ y = .bool z ∧ wr = wq) (fun _ v _ => k - (intOf v).toNat)
      case atStart => exact ⟨0, x, by omega, rfl, rfl, rfl, by trivial⟩
      case round =>
        obtain ⟨j, z, hj, rfl, hz, rfl, rfl⟩ := hrel
        have HZ : Hid (z = vN x is i (ps.take j)) := hz
        clear hz
        by_cases hjl : j < k
        · have hjl' : (j : Int) < k := by omega
          obtain ⟨p, hp⟩ : ∃ p, Hid (ps[j]? = some p) := ⟨_, List.getElem?_eq_getElem (by rw [← HK.out]; exact hjl)⟩
          obtain ⟨b2, o2, rfl, hbl2, hc02⟩ := HI.out.2.2 j p hp.out
          have hc2 := cell_below hbel hc02
          by_cases e : p = (i : Int)
          · have hnx : Hid (vN x is i (ps.take (j + 1)) = is) := by show _ = _; rw [vN_take x is i hp.out, if_pos e]
            have e1 : (p == (i : Int)) = true := by simp [e]
            clear e
            go_wp2
            go_roundw
            case rel => exact ⟨j + 1, is, by omega, by go_num, hnx.out.symm, rfl, by trivial⟩
            case measure => simp [intOf]; omega
          · have hnx : Hid (vN x is i (ps.take (j + 1)) = z) := by show _ = _; rw [vN_take x is i hp.out, if_neg e, HZ.out]
            have e1 : (p == (i : Int)) = false := by simp [e]
            clear e
            go_wp2
            go_roundw
            case rel => exact ⟨j + 1, z, by omega, by go_num, hnx.out.symm, rfl, by trivial⟩
            case measure => simp [intOf]; omega
        · obtain rfl : j = k := by omega
          have hyy : Hid ((putB l is ps (i + 1)).map Value.bool = (putB l is ps i).map Value.bool ++ [.bool z]) := by
            show _ = _
            rw [putB_succ, List.map_append, atB_some hx.out, HZ.out, HK.out, List.take_length]; rfl
          have hown := HO.out
          go_wp2_with (at_builtin; refine wpList_append_own _ rfl _ _ 22 rfl w.heap.size 4 i0 (.bool false) 1 1 Try.underlying22 hi hz0 hz1 hz2 rfl (by decide) _ _ _ rfl (hown.alloc _) ⟨wr.heap.size, 0, none⟩ 1 1 [.bool z] rfl rfl ?c1 ?c2 ?c3 ?c4 ?c5 ?_)
          case c1 =>
            intro j u hj
            match j, hj with
            | 0, hj => simp at hj; subst hj; simp [Addr.add]
          case c2 => intro u hu; simp at hu; subst hu; rfl
          case c3 => unfold maxLen; omega
          case c4 => omega
          case c5 => simp; omega
          · intro v' w1 hown' hgrow _
            have R2 : Below w.heap.size w w1 := (hbel.alloc (by omega) _).grown hgrow (by simp; omega) (fun k hk => (hown.lt k hk).1)
            have R : Hid (w1.ownsRow w.heap.size 4 1 v' (i + 1) ((putB l is ps (i + 1)).map Value.bool)) := by show World.ownsRow _ _ _ _ _ _ _; rw [hyy.out]; exact hown'
            clear hown' hgrow hown
            obtain ⟨g', cap', rfl, -, -⟩ := R.out.form (by omega)
            go_wp2
            go_roundw
            case rel => exact ⟨i + 1, by omega, by go_num, R.out, ⟨_, _, rfl⟩, R2⟩
            case measure => simp [intOf]; omega
    · obtain rfl : i = n := by omega
      have hT : Hid (RowT wr g cap (putB l is ps i)) := ownsRow_at (putB_length l is ps i) HO.out
      go_wp2
      go_loopw [43] (fun v wq => ∃ j : Nat, j ≤ k ∧ v = .int .i64 j ∧ placesOk l (ps.take j) = true ∧ wr = wq) (fun v _ => k - (intOf v).toNat)
      case atStart => exact ⟨0, by omega, rfl, rfl, by trivial⟩
      case round =>
        obtain ⟨j, hj, rfl, hok, rfl⟩ := hrel
        have HK1 : Hid (placesOk l (ps.take j) = true) := hok
        clear hok
        by_cases hlt : j < k
        · have hlt' : (j : Int) < k := by omega
          obtain ⟨p, hp⟩ : ∃ p, Hid (ps[j]? = some p) := ⟨_, List.getElem?_eq_getElem (by rw [← HK.out]; exact hlt)⟩
          obtain ⟨b, o, rfl, hbl, hc0⟩ := HI.out.2.2 j p hp.out
          have hc := cell_below hbel hc0
          by_cases h0 : p < 0
          · have hE : Hid (placesOk l ps = false) := placesOk_bad hp.out (.inl h0)
            go_wp2
            go_ret2
            exact ⟨none, 0, by rw [withE_bad hE.out, withL_bad hE.out]; rfl, by rw [withL_bad hE.out]; exact IsB_nil _, hbel⟩
          · by_cases h1 : (i : Int) ≤ p
            · have hE : Hid (placesOk l ps = false) := placesOk_bad hp.out (.inr (by rw [← HN.out]; exact h1))
              go_wp2
              go_ret2
              exact ⟨none, 0, by rw [withE_bad hE.out, withL_bad hE.out]; rfl, by rw [withL_bad hE.out]; exact IsB_nil _, hbel⟩
            · have hok2 : Hid (placesOk l (ps.take (j + 1)) = true) := placesOk_take HK1.out hp.out (by omega) (by rw [← HN.out]; omega)
              go_wp2
              go_roundw
              case rel => exact ⟨j + 1, by omega, by go_num, hok2.out, by trivial⟩
              case measure => simp [intOf]; omega
        · obtain rfl : j = k := by omega
          have hE : Hid (placesOk l ps = true) := by have := HK1.out; rw [HK.out, List.take_length] at this; exact this
          have hS : Hid (IsB wr (some ⟨g, 0, none⟩) cap (setB l is ps)) := by
            have := hT.out.isB
            rw [HN.out, putB_all hE.out] at this
            exact this
          go_wp2
          go_ret2
          exact ⟨some ⟨g, 0, none⟩, cap, by rw [withE_ok hE.out, withL_ok hE.out, setB_length, ← HN.out]; rfl, by rw [withL_ok hE.out]; exact hS.out, hbel⟩

end Go.Proofs.Ytkfapldicjmelaa
