/-
  What the statements call: alive, one; Like of two graphs that are the same.
-/
import Derived.Test.YtmjhapkhfelbpaaDagRight
import Derived.Test.YtmjhapkhfelbpaaDagRefFree
namespace Go.Proofs.Ytmjhapkhfelbpaa
open Go.RowKit Plain
set_option linter.unusedVariables false

set_option maxRecDepth 20000 in
set_option maxHeartbeats 1000000 in
/-- ONE. -/
theorem one16_any (w : World) : Calls Try.prog 29 #[] w fun e w' => e = .returned (.agg #[.string ⟨#[97]⟩, .slice (some ⟨w.heap.size + 1, 0, none⟩) 1 1]) ∧ IsT w' (some ⟨w.heap.size + 1, 0, none⟩) 1 [⟨none, 0, [], 1, 0, 1⟩] ∧ Below w.heap.size w w' := by
  obtain ⟨W, hW⟩ : ∃ W, W = w.alloc (.cells #[.string ⟨#[97]⟩, .slice (some ⟨w.heap.size + 1, 0, none⟩) 1 1] 24) := ⟨_, rfl⟩
  obtain ⟨X, hX⟩ : ∃ X, X = W.alloc (.cells #[.slice none 0 0, .int .i64 1, .int .i64 0, .int .i64 1] 46) := ⟨_, rfl⟩
  have zW : W.heap.size = w.heap.size + 1 := by rw [hW]; simp
  have bX : BoxL X w.heap.size [.string ⟨#[97]⟩, .slice (some ⟨w.heap.size + 1, 0, none⟩) 1 1] := by rw [hX, hW]; exact (boxL_new _ _ _ rfl).alloc _
  have bY : BoxL X (w.heap.size + 1) [.slice none 0 0, .int .i64 1, .int .i64 0, .int .i64 1] := by rw [hX]; exact boxL_new _ _ _ zW.symm
  have hB : Below w.heap.size w X := by rw [hX]; exact ((by rw [hW]; exact (Below.refl _ _).alloc (Nat.le_refl _) _ : Below w.heap.size w W)).alloc (by omega) _
  have hz : w.heap.size + 1 < X.heap.size := bY.lt (by simp)
  have hT : Hid (IsT X (some ⟨w.heap.size + 1, 0, none⟩) 1 [⟨none, 0, [], 1, 0, 1⟩]) := by
    refine ⟨Nat.le_refl _, by unfold maxLen; omega, fun t ht => ?_, fun j t ht => ?_⟩
    · obtain rfl : t = _ := by simpa using ht
      exact isI_nil _
    · match j, ht with
      | 0, ht =>
        obtain rfl : _ = t := by simpa using ht
        refine ⟨_, 0, rfl, hz, ?_, ?_, ?_, ?_⟩
        · exact bY.1 0 _ rfl
        · exact bY.1 1 _ rfl
        · exact bY.1 2 _ rfl
        · exact bY.1 3 _ rfl
  have q0 := bX.1 0 _ rfl
  have q1 := bX.1 1 _ rfl
  clear bX bY
  go_enter Try.func29, Try.ntmps29
  go_wp2
  rw [← hW, ← hX]
  exact bodyPost_ret (v := .agg #[.string ⟨#[97]⟩, .slice (some ⟨w.heap.size + 1, 0, none⟩) 1 1]) (by simp [results, Try.results29, go_sem, q0, q1]) rfl ⟨rfl, hT.out, hB⟩

theorem one_right : rightG ⟨#[97]⟩ (plainT [⟨none, 0, [], 1, 0, 1⟩]) = 0 := by decide +kernel
theorem one_order : (orderL (plainT [⟨none, 0, [], 1, 0, 1⟩])).length = 1 := by decide +kernel

set_option maxRecDepth 20000 in
set_option maxHeartbeats 1000000 in
/-- ALIVE. -/
theorem alive16_any (w : World) : Calls Try.prog 13 #[] w fun e w' => e = .returned (.bool true) ∧ Below w.heap.size w w' := by
  have c1 := one16_any w
  have c2 : ∀ V b, IsT V (some ⟨b, 0, none⟩) 1 [⟨none, 0, [], 1, 0, 1⟩] → Calls Try.prog 10 #[.agg #[.string ⟨#[97]⟩, .slice (some ⟨b, 0, none⟩) 1 1]] V fun e w' => ∃ a c, e = .returned (.tuple #[.slice a 1 c, .int .i64 0]) ∧ Below V.heap.size V w' := fun V b hT => (order16_any ⟨#[97]⟩ (some ⟨b, 0, none⟩) 1 1 _ V rfl hT).mono (by
    rintro e w' ⟨a, c, k, rfl, hk, -, hb⟩
    refine ⟨a, c, ?_, hb⟩
    rw [hk, one_right]
    unfold ordR
    rw [if_pos one_right, one_order])
  go_enter Try.func13, Try.ntmps13
  go_wp2_with (first
    | (go_at_call 29; refine c1.mono ?_; rintro e w2 ⟨rfl, hT, hb⟩)
    | (go_at_call 10; refine (c2 _ _ hT).mono ?_; rintro e w3 ⟨a, c, rfl, hb2⟩; have hB := Below.tr hb hb2))
  go_ret
  exact ⟨rfl, hB⟩

/-- One round of Like. -/
theorem plainT_same {ts us : List TaskV} (h : plainT ts = plainT us) {j : Nat} {t : TaskV} (ht : ts[j]? = some t) : ∃ u, us[j]? = some u ∧ u.ns = t.ns ∧ u.tr = t.tr ∧ u.wt = t.wt ∧ u.le = t.le := by
  have h1 := plainT_get ht
  rw [h] at h1
  unfold plainT at h1
  rw [List.getElem?_map] at h1
  obtain ⟨u, hu, e⟩ := Option.map_eq_some_iff.1 h1
  have e1 := congrArg TaskP.needs e
  have e2 := congrArg TaskP.tries e
  have e3 := congrArg TaskP.wait e
  have e4 := congrArg TaskP.lease e
  exact ⟨u, hu, e1, e2, e3, e4⟩

set_option maxRecDepth 20000 in
set_option maxHeartbeats 2000000 in
/-- LIKE, of two that are the same. -/
theorem like16_same (s : ByteArray) (a a' : Option Addr) (c c' n n' : Nat) (ts us : List TaskV) (w : World) (hn : n = ts.length) (hn' : n' = us.length) (hT : IsT w a c ts) (hU : IsT w a' c' us) (hs : plainT ts = plainT us) :
    Calls Try.prog 21 #[.agg #[.string s, .slice a n c], .agg #[.string s, .slice a' n' c']] w fun e w' => e = .returned (.bool true) ∧ Below w.heap.size w w' := by
  obtain rfl : n = n' := by rw [hn, hn', ← plainT_length ts, ← plainT_length us, hs]
  have hnm : n ≤ 9223372036854775807 := by rw [hn]; exact Nat.le_trans hT.1 hT.2.1
  obtain ⟨W, hW⟩ : ∃ W, W = (w.alloc (.cells #[.string s, .slice a n c] 24)).alloc (.cells #[.string s, .slice a' n c'] 24) := ⟨_, rfl⟩
  have hB0 : Below w.heap.size w W := by rw [hW]; exact ((Below.refl _ _).alloc (Nat.le_refl _) _).alloc (by simp) _
  have bX : BoxL W w.heap.size [.string s, .slice a n c] := by rw [hW]; exact (boxL_new _ _ _ rfl).alloc _
  have bY : BoxL W (w.heap.size + 1) [.string s, .slice a' n c'] := by rw [hW]; exact boxL_new _ _ _ (by simp)
  have HN : Hid (n = ts.length) := hn
  have HT : Hid (IsT W a c ts) := hT.below hB0
  have HU : Hid (IsT W a' c' us) := hU.below hB0
  have HS : Hid (plainT ts = plainT us) := hs
  have q0 := bX.1 0 _ rfl
  have q1 := bX.1 1 _ rfl
  have r0 := bY.1 0 _ rfl
  have r1 := bY.1 1 _ rfl
  have es := str_ne_false (rfl : s = s)
  clear hn hn' hT hU hs bX bY
  rw [hW] at q0 q1 r0 r1
  go_enter Try.func21, Try.ntmps21
  go_wp2
  rw [← hW]
  rw [← hW] at q0 q1 r0 r1
  clear hW
  go_loopw [25] (fun v wr => ∃ j : Nat, j ≤ n ∧ v = .int .i64 j ∧ Below W.heap.size W wr) (fun v _ => n - (intOf v).toNat)
  case atStart => exact ⟨0, by omega, rfl, Below.refl _ _⟩
  case round =>
    obtain ⟨j, hj, rfl, hB⟩ := hrel
    by_cases hlt : j < n
    · have hlt' : (j : Int) < n := by omega
      obtain ⟨t, ht⟩ : ∃ t, ts[j]? = some t := ⟨_, List.getElem?_eq_getElem (by rw [← HN.out]; exact hlt)⟩
      obtain ⟨u, hu, e1, e2, e3, e4⟩ := plainT_same HS.out ht
      obtain ⟨b, o, rfl, -, c0, c1, c2, c3⟩ := HT.out.2.2.2 j t ht
      obtain ⟨b', o', rfl, -, d0, d1, d2, d3⟩ := HU.out.2.2.2 j u hu
      rw [e1] at d0
      rw [e2] at d1
      rw [e3] at d2
      rw [e4] at d3
      have hI := HT.out.2.2.1 t (List.mem_of_getElem? ht)
      have hJ := HU.out.2.2.1 u (List.mem_of_getElem? hu)
      rw [e1] at hJ
      have cS : ∀ V, Below W.heap.size W V → Calls Try.prog 14 #[.slice t.a t.ns.length t.c, .slice u.a t.ns.length u.c] V fun e w' => e = .returned (.bool true) ∧ Below V.heap.size V w' := fun V hb => by
        have := sameInts_any t.a u.a t.c u.c t.ns.length t.ns.length t.ns t.ns V rfl rfl (hI.below hb) (hJ.below hb)
        rw [decide_eq_true rfl] at this
        exact this
      obtain ⟨V1, hV1⟩ : ∃ V, V = wr.alloc (.cells #[.slice t.a t.ns.length t.c, .int .i64 t.tr, .int .i64 t.wt, .int .i64 t.le] 46) := ⟨_, rfl⟩
      obtain ⟨V2, hV2⟩ : ∃ V, V = V1.alloc (.cells #[.slice u.a t.ns.length u.c, .int .i64 t.tr, .int .i64 t.wt, .int .i64 t.le] 46) := ⟨_, rfl⟩
      have b1 : Below wr.heap.size wr V1 := by rw [hV1]; exact (Below.refl _ _).alloc (Nat.le_refl _) _
      have z1 : V1.heap.size = wr.heap.size + 1 := by rw [hV1]; simp
      have b2 : Below V1.heap.size V1 V2 := by rw [hV2]; exact (Below.refl _ _).alloc (Nat.le_refl _) _
      have x1 : BoxL V2 wr.heap.size [.slice t.a t.ns.length t.c, .int .i64 t.tr, .int .i64 t.wt, .int .i64 t.le] := (show BoxL V1 _ _ by rw [hV1]; exact boxL_new _ _ _ rfl).below b2
      have x2 : BoxL V2 (wr.heap.size + 1) [.slice u.a t.ns.length u.c, .int .i64 t.tr, .int .i64 t.wt, .int .i64 t.le] := by rw [hV2]; exact boxL_new _ _ _ z1.symm
      have hB2 : Below W.heap.size W V2 := Below.tr (Below.tr hB b1) b2
      have k0 := cell_below hB c0
      have k1 := cell_below hB c1
      have k2 := cell_below hB c2
      have k3 := cell_below hB c3
      have l0 := cell_below (Below.tr hB b1) d0
      have l1 := cell_below (Below.tr hB b1) d1
      have l2 := cell_below (Below.tr hB b1) d2
      have l3 := cell_below (Below.tr hB b1) d3
      have p1 := cell_below (Below.tr hB b1) r1
      clear e1 e2 e3 e4 hI hJ c0 c1 c2 c3 d0 d1 d2 d3 ht hu
      generalize t.a = ta at *
      generalize t.c = tc at *
      generalize t.ns.length = k at *
      generalize t.tr = t1 at *
      generalize t.wt = t2 at *
      generalize t.le = t3 at *
      generalize u.a = ua at *
      generalize u.c = uc at *
      rw [hV1] at l0 l1 l2 l3 p1
      go_wp2_with (go_at_call 14; rw [← hV1, ← hV2]; refine (cS _ hB2).mono ?_; rintro e w3 ⟨rfl, hb3⟩; have hB3 := Below.tr hB2 hb3; have y1 := x1.below hb3; have y2 := x2.below hb3; have m1 := y1.1 1 _ rfl; have m2 := y1.1 2 _ rfl; have m3 := y1.1 3 _ rfl; have n1 := y2.1 1 _ rfl; have n2 := y2.1 2 _ rfl; have n3 := y2.1 3 _ rfl)
      go_roundw
      case rel => exact ⟨j + 1, by omega, by go_num, hB3⟩
      case measure => simp [intOf]; omega
    · obtain rfl : j = n := by omega
      have hx : ¬ (j : Int) < j := by omega
      go_wp2
      go_ret
      exact ⟨rfl, Below.tr hB0 hB⟩

end Go.Proofs.Ytmjhapkhfelbpaa
