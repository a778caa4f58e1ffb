/-
  Whether two devices are alike.
-/
import Derived.Test.YtogadbckiaghcaaDevNew
namespace Go.Proofs.Ytogadbckiaghcaa
open Go.RowKit Plain
set_option linter.unusedVariables false

theorem str_beq {a b : ByteArray} : (a.toList == b.toList) = true ↔ a = b := by
  rw [beq_iff_eq, ByteArray.toList_eq, ByteArray.toList_eq]
  exact ⟨bytes_ext, fun h => by rw [h]⟩

theorem str_eq_true {a b : ByteArray} (h : a = b) : (a.toList == b.toList) = true := str_beq.2 h
theorem str_eq_false {a b : ByteArray} (h : ¬ a = b) : (a.toList == b.toList) = false := by
  rw [Bool.eq_false_iff]; exact fun hh => h (str_beq.1 hh)
theorem str_ne_false {a b : ByteArray} (h : a = b) : (!a.toList == b.toList) = false := by rw [str_eq_true h]; rfl
theorem str_ne_true {a b : ByteArray} (h : ¬ a = b) : (!a.toList == b.toList) = true := by rw [str_eq_false h]; rfl

/-- Two devices are alike. -/
def likeD (bs cs : List ByteArray) (ps qs : List (Int × ByteArray)) : Bool := decide (bs = cs) && decide (ps = qs)

theorem likeD_len {bs cs : List ByteArray} {ps qs : List (Int × ByteArray)} (h : ¬ (bs.length = cs.length ∧ ps.length = qs.length)) : likeD bs cs ps qs = false := by
  rw [Bool.eq_false_iff]
  intro hl
  unfold likeD at hl
  rw [Bool.and_eq_true, decide_eq_true_eq, decide_eq_true_eq] at hl
  exact h ⟨by rw [hl.1], by rw [hl.2]⟩

theorem likeD_at {bs cs : List ByteArray} {ps qs : List (Int × ByteArray)} {j : Nat} (h : ¬ (bs[j]? = cs[j]?)) : likeD bs cs ps qs = false := by
  rw [Bool.eq_false_iff]
  intro hl
  unfold likeD at hl
  rw [Bool.and_eq_true, decide_eq_true_eq, decide_eq_true_eq] at hl
  exact h (by rw [hl.1])

theorem likeD_write {bs cs : List ByteArray} {ps qs : List (Int × ByteArray)} {j : Nat} (h : ¬ (ps[j]? = qs[j]?)) : likeD bs cs ps qs = false := by
  rw [Bool.eq_false_iff]
  intro hl
  unfold likeD at hl
  rw [Bool.and_eq_true, decide_eq_true_eq, decide_eq_true_eq] at hl
  exact h (by rw [hl.2])

theorem take_same {α : Type} {l m : List α} {j : Nat} (h : l.take j = m.take j) (hx : l[j]? = m[j]?) : l.take (j + 1) = m.take (j + 1) := by
  rw [List.take_add_one, List.take_add_one, h, hx]

/-- What is known of two devices of which the call has boxes. -/
theorem like_boxes {w wr : World} {v0 v1 u0 u1 : Value} {t : TypeId} (hb : Below ((w.alloc (.cells #[v0, v1] t)).alloc (.cells #[u0, u1] t)).heap.size ((w.alloc (.cells #[v0, v1] t)).alloc (.cells #[u0, u1] t)) wr) :
    (wr.cell? ⟨w.heap.size, 0, none⟩ = some v0 ∧ wr.cell? ⟨w.heap.size, 1, none⟩ = some v1) ∧ wr.cell? ⟨w.heap.size + 1, 0, none⟩ = some u0 ∧ wr.cell? ⟨w.heap.size + 1, 1, none⟩ = some u1 := by
  refine ⟨⟨cell_below hb ?_, cell_below hb ?_⟩, cell_below hb ?_, cell_below hb ?_⟩
  · exact Lib.cell?_alloc_some _ (World.cell?_alloc_at _ _ _ _ rfl)
  · exact Lib.cell?_alloc_some _ (World.cell?_alloc_at _ _ _ _ rfl)
  · exact World.cell?_alloc_at _ _ _ _ (by simp)
  · exact World.cell?_alloc_at _ _ _ _ (by simp)

set_option maxHeartbeats 2000000 in
theorem like_same (a a' b b' : Option Addr) (c c' d d' n m : Nat) (bs cs : List ByteArray) (ps qs : List (Int × ByteArray)) (w : World) (hn : Hid (bs.length = n ∧ cs.length = n)) (hm : Hid (ps.length = m ∧ qs.length = m))
    (hn6 : n ≤ 9223372036854775807) (hm6 : m ≤ 9223372036854775807)
    (hS : IsS w a c bs) (hP : IsP w a' c' ps) (hT : IsS w b d cs) (hQ : IsP w b' d' qs) :
    Calls Try.prog 11 #[.agg #[.slice a n c, .slice a' m c'], .agg #[.slice b n d, .slice b' m d']] w fun e w' => e = .returned (.bool (likeD bs cs ps qs)) ∧ Below w.heap.size w w' := by
  obtain ⟨W, hW⟩ : ∃ W, W = ((w.alloc (.cells #[.slice a n c, .slice a' m c'] 25)).alloc (.cells #[.slice b n d, .slice b' m d'] 25)) := ⟨_, rfl⟩
  have hB0 : Below w.heap.size w W := by rw [hW]; exact ((Below.refl _ _).alloc (Nat.le_refl _) _).alloc (by simp) _
  have HS : Hid (IsS _ a c bs) := hS.below hB0
  have HP : Hid (IsP _ a' c' ps) := hP.below hB0
  have HT : Hid (IsS _ b d cs) := hT.below hB0
  have HQ : Hid (IsP _ b' d' qs) := hQ.below hB0
  have HBX : Hid (∀ wr, Below W.heap.size W wr → (wr.cell? ⟨w.heap.size, 0, none⟩ = some (.slice a n c) ∧ wr.cell? ⟨w.heap.size, 1, none⟩ = some (.slice a' m c')) ∧ wr.cell? ⟨w.heap.size + 1, 0, none⟩ = some (.slice b n d) ∧ wr.cell? ⟨w.heap.size + 1, 1, none⟩ = some (.slice b' m d')) := by
    intro wr h
    rw [hW] at h
    exact like_boxes h
  clear hS hP hT hQ
  go_enter Try.func11, Try.ntmps11
  go_wp2
  rw [← hW]
  go_loopw [26] (fun v wr => ∃ j : Nat, j ≤ n ∧ v = .int .i64 j ∧ bs.take j = cs.take j ∧ Below W.heap.size W wr) (fun v _ => n - (intOf v).toNat)
  case atStart => exact ⟨0, by omega, rfl, rfl, Below.refl _ _⟩
  case round =>
    obtain ⟨j, hj, rfl, HA, hbel⟩ := hrel
    obtain ⟨⟨q0, q1⟩, q2, q3⟩ := HBX.out wr hbel
    by_cases hlt : j < n
    · obtain ⟨x, hx⟩ : ∃ x, bs[j]? = some x := ⟨_, List.getElem?_eq_getElem (by rw [hn.out.1]; exact hlt)⟩
      obtain ⟨y, hy⟩ : ∃ x, cs[j]? = some x := ⟨_, List.getElem?_eq_getElem (by rw [hn.out.2]; exact hlt)⟩
      obtain ⟨b1, o1, rfl, hlb, hc, hxs⟩ := HS.out.2.2 j x hx
      obtain ⟨b2, o2, rfl, hlb2, hc2, hxs2⟩ := HT.out.2.2 j y hy
      replace hc := cell_below hbel hc
      replace hc2 := cell_below hbel hc2
      have hA' : Hid (x = y → bs.take (j + 1) = cs.take (j + 1)) := fun h => take_same HA (by rw [hx, hy, h])
      have hF : Hid (¬ x = y → likeD bs cs ps qs = false) := fun h => likeD_at (j := j) (by rw [hx, hy]; exact fun hh => h (Option.some.inj hh))
      have hBw : Below w.heap.size w wr := Below.tr hB0 hbel
      clear HA hx hy hlb hlb2 HS HT HP HQ hW
      have hlt' : (j : Int) < n := by omega
      by_cases hxy : x = y
      · have hq := str_ne_false hxy
        go_wp2
        go_region
        go_wp2
        go_roundw
        case rel => exact ⟨j + 1, by omega, by go_num, hA'.out hxy, hbel.drew⟩
        case measure => simp [intOf]; omega
      · have hq := str_ne_true hxy
        go_wp2
        go_region
        go_wp2
        go_ret
        exact ⟨ret_bool (hF.out hxy).symm, hBw.drew⟩
    · obtain rfl : j = n := by omega
      have HE : Hid (bs = cs) := by
        show bs = cs
        rw [List.take_of_length_le (by rw [hn.out.1]; exact Nat.le_refl _), List.take_of_length_le (by rw [hn.out.2]; exact Nat.le_refl _)] at HA
        exact HA
      clear HA HS HT
      go_wp2
      go_loopw [44] (fun v wr => ∃ j : Nat, j ≤ m ∧ v = .int .i64 j ∧ ps.take j = qs.take j ∧ Below W.heap.size W wr) (fun v _ => m - (intOf v).toNat)
      case atStart => exact ⟨0, by omega, rfl, rfl, hbel⟩
      case round =>
        clear q0 q1 q2 q3 hbel
        obtain ⟨j, hj, rfl, HA, hbel⟩ := hrel
        obtain ⟨⟨q0, q1⟩, q2, q3⟩ := HBX.out _ hbel
        by_cases hlt : j < m
        · obtain ⟨x, hx⟩ : ∃ x, ps[j]? = some x := ⟨_, List.getElem?_eq_getElem (by rw [hm.out.1]; exact hlt)⟩
          obtain ⟨y, hy⟩ : ∃ x, qs[j]? = some x := ⟨_, List.getElem?_eq_getElem (by rw [hm.out.2]; exact hlt)⟩
          obtain ⟨b1, o1, rfl, hlb, hc, hd, hxs⟩ := HP.out.2.2 j x hx
          obtain ⟨b2, o2, rfl, hlb2, hc2, hd2, hxs2⟩ := HQ.out.2.2 j y hy
          replace hc := cell_below hbel hc
          replace hc2 := cell_below hbel hc2
          replace hd := cell_below hbel hd
          replace hd2 := cell_below hbel hd2
          have hA' : Hid (x = y → ps.take (j + 1) = qs.take (j + 1)) := fun h => take_same HA (by rw [hx, hy, h])
          have hF : Hid (¬ x = y → likeD bs cs ps qs = false) := fun h => likeD_write (j := j) (by rw [hx, hy]; exact fun hh => h (Option.some.inj hh))
          have hBw : Below w.heap.size w _ := Below.tr hB0 hbel
          clear HA hx hy hlb hlb2 HP HQ hW
          have hlt' : (j : Int) < m := by omega
          by_cases hxy : x = y
          · replace hA' : Hid (ps.take (j + 1) = qs.take (j + 1)) := hA'.out hxy
            subst hxy
            clear hF
            go_wp2
            go_region
            go_wp2
            go_roundw
            case rel => exact ⟨j + 1, by omega, by go_num, hA'.out, hbel.drew⟩
            case measure => simp [intOf]; omega
          · replace hF : Hid (likeD bs cs ps qs = false) := hF.out hxy
            by_cases h1 : x.1 = y.1
            · have h2 : ¬ x.2.toList = y.2.toList := by
                intro h
                rw [ByteArray.toList_eq, ByteArray.toList_eq] at h
                exact hxy (Prod.ext h1 (bytes_ext h))
              clear hxy hA'
              go_wp2
              go_region
              go_wp2
              go_ret
              exact ⟨ret_bool hF.out.symm, hBw.drew⟩
            · clear hxy hA'
              go_wp2
              go_region
              go_wp2
              go_ret
              exact ⟨ret_bool hF.out.symm, hBw.drew⟩
        · obtain rfl : j = m := by omega
          have ht : Hid (likeD bs cs ps qs = true) := by
            show _ = _
            rw [List.take_of_length_le (by rw [hm.out.1]; exact Nat.le_refl _), List.take_of_length_le (by rw [hm.out.2]; exact Nat.le_refl _)] at HA
            unfold likeD
            rw [decide_eq_true HE.out, decide_eq_true HA]; rfl
          clear HA
          have hBw : Below w.heap.size w _ := Below.tr hB0 hbel
          go_wp2
          go_ret
          exact ⟨ret_bool ht.out.symm, hBw⟩

set_option maxHeartbeats 1000000 in
theorem like_any (a a' b b' : Option Addr) (c c' d d' : Nat) (bs cs : List ByteArray) (ps qs : List (Int × ByteArray)) (w : World) (hS : IsS w a c bs) (hP : IsP w a' c' ps) (hT : IsS w b d cs) (hQ : IsP w b' d' qs) :
    Calls Try.prog 11 #[.agg #[.slice a bs.length c, .slice a' ps.length c'], .agg #[.slice b cs.length d, .slice b' qs.length d']] w fun e w' => e = .returned (.bool (likeD bs cs ps qs)) ∧ Below w.heap.size w w' := by
  have hm : bs.length ≤ 9223372036854775807 := Nat.le_trans hS.1 hS.2.1
  have hm' : ps.length ≤ 9223372036854775807 := Nat.le_trans hP.1 hP.2.1
  have hm2 : cs.length ≤ 9223372036854775807 := Nat.le_trans hT.1 hT.2.1
  have hm2' : qs.length ≤ 9223372036854775807 := Nat.le_trans hQ.1 hQ.2.1
  by_cases hsz : bs.length = cs.length ∧ ps.length = qs.length
  · obtain ⟨h1, h2⟩ := hsz
    have := like_same a a' b b' c c' d d' bs.length ps.length bs cs ps qs w ⟨rfl, h1.symm⟩ ⟨rfl, h2.symm⟩ hm hm' hS hP hT hQ
    rw [← h1, ← h2]
    exact this
  · have hf : Hid (likeD bs cs ps qs = false) := likeD_len hsz
    have hB0 : Below w.heap.size w ((w.alloc (.cells #[.slice a bs.length c, .slice a' ps.length c'] 25)).alloc (.cells #[.slice b cs.length d, .slice b' qs.length d'] 25)) := ((Below.refl _ _).alloc (Nat.le_refl _) _).alloc (by simp) _
    clear hS hP hT hQ
    go_enter Try.func11, Try.ntmps11
    go_wp2
    all_goals first
      | (go_ret; exact ⟨ret_bool hf.out.symm, hB0⟩)
      | (rename_i h; exact absurd (by simp at h; omega) hsz)
      | sorry

end Go.Proofs.Ytogadbckiaghcaa
