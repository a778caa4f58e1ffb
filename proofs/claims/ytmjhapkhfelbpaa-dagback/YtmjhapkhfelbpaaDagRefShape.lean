/-
  The document's own shaped. Written by wip/gen16/shaped.py.
-/
import Derived.Test.YtmjhapkhfelbpaaDagNeeds
namespace Go.Proofs.Ytmjhapkhfelbpaa
open Go.RowKit Plain
set_option linter.unusedVariables false

set_option maxRecDepth 20000 in
set_option maxHeartbeats 4000000 in
/-- SHAPED. -/
theorem refShaped_any (s : ByteArray) (a : Option Addr) (c n : Nat) (ts : List TaskV) (w : World) (hn : n = ts.length) (hT : IsT w a c ts) (h10 : n ≤ 10) (hs : s.size ≤ maxLen) :
    Calls Try.prog 22 #[.agg #[.string s, .slice a n c]] w fun e w' => e = .returned (.bool (nameB s && decide (0 < n) && tasksB (plainT ts))) ∧ Below w.heap.size w w' := by
  unfold maxLen at hs
  have HT : Hid (IsT w a c ts) := hT
  have HN : Hid (n = ts.length) := hn
  have HP : Hid ((plainT ts).length = n) := by show _ = _; rw [plainT_length, hn]
  clear hT hn
  have hB0 : Below w.heap.size w (w.alloc (.cells #[.string s, .slice a n c] 24)) := (Below.refl _ _).alloc (Nat.le_refl _) _
  by_cases h0 : 0 < n
  · have h0' : ¬ (n : Int) < 1 := by omega
    by_cases h1 : 1 ≤ s.size
    · have h1' : ¬ (s.size : Int) < 1 := by omega
      by_cases h2 : s.size ≤ 16
      · have h2' : ¬ (16 : Int) < s.size := by omega
        have E : Hid (nameB s = true) := by show _ = _; unfold nameB; rw [decide_eq_true_eq]; omega
        rw [E.out, decide_eq_true h0, Bool.true_and, Bool.true_and]
        go_enter Try.func22, Try.ntmps22
        go_wp2
        go_loopw [28] (fun v wr => ∃ j : Nat, j ≤ n ∧ v = .int .i64 j ∧ Hid (TasksTo n (plainT ts) j) ∧ Below w.heap.size w wr) (fun v _ => n - (intOf v).toNat)
        case atStart => exact ⟨0, by omega, rfl, fun i t h => by omega, hB0⟩
        case round =>
          obtain ⟨j, hj, rfl, HA, hB⟩ := hrel
          by_cases hlt : j < n
          · have hlt' : (j : Int) < n := by omega
            obtain ⟨t, ht⟩ : ∃ t, ts[j]? = some t := ⟨_, List.getElem?_eq_getElem (by rw [← HN.out]; exact hlt)⟩
            obtain ⟨b, o, rfl, hlb, c0, c1, c2, c3⟩ := HT.out.2.2.2 j t ht
            have z0 := cell_below hB c0
            have z1 := cell_below hB c1
            have z2 := cell_below hB c2
            have z3 := cell_below hB c3
            have hI : IsI (wr.alloc (.cells #[.slice t.a t.ns.length t.c, .int .i64 t.tr, .int .i64 t.wt, .int .i64 t.le] 46)) t.a t.c t.ns := ((HT.out.2.2.1 t (List.mem_of_getElem? ht)).below hB).below ((Below.refl _ _).alloc (Nat.le_refl _) _)
            have HB2 : Hid (Below w.heap.size w (wr.alloc (.cells #[.slice t.a t.ns.length t.c, .int .i64 t.tr, .int .i64 t.wt, .int .i64 t.le] 46))) := hB.alloc hB.size _
            have bx : BoxL (wr.alloc (.cells #[.slice t.a t.ns.length t.c, .int .i64 t.tr, .int .i64 t.wt, .int .i64 t.le] 46)) wr.heap.size [.slice t.a t.ns.length t.c, .int .i64 t.tr, .int .i64 t.wt, .int .i64 t.le] := boxL_new _ _ _ rfl
            have hkm : t.ns.length ≤ 9223372036854775807 := Nat.le_trans hI.1 hI.2.1
            have bad : Hid (taskB n t.p = false → tasksB (plainT ts) = false) := fun h => tasksB_bad (plainT_get ht) (by rw [HP.out]; exact h)
            have needsNo : Hid (needsB n 0 t.ns = false → taskB n t.p = false) := fun h => by show taskB n ⟨t.ns, _, _, _⟩ = false; unfold taskB; rw [h]; rfl
            have good : Hid (taskB n t.p = true → TasksTo n (plainT ts) (j + 1)) := fun h => tasksTo_succ HA.out (plainT_get ht) h
            have hA : Hid (needsB n 0 t.ns = true → 1 ≤ t.tr ∧ t.tr ≤ 8 ∧ 0 ≤ t.wt ∧ t.wt ≤ 1048576 ∧ 1 ≤ t.le ∧ t.le ≤ 1048576 → taskB n t.p = true) := fun h1 h2 => (taskB_iff _ _).2 ⟨h1, h2⟩
            have hNo : Hid (¬ (1 ≤ t.tr ∧ t.tr ≤ 8 ∧ 0 ≤ t.wt ∧ t.wt ≤ 1048576 ∧ 1 ≤ t.le ∧ t.le ≤ 1048576) → taskB n t.p = false) := fun h => by rw [Bool.eq_false_iff]; exact fun h' => h ((taskB_iff _ _).1 h').2
            clear c0 c1 c2 c3 HA hB0 ht
            obtain ⟨k, hk⟩ : ∃ k, k = t.ns.length := ⟨_, rfl⟩
            rw [← hk] at z0 HB2 bx hkm hI
            have HK : Hid (k = t.ns.length) := hk
            clear hk
            generalize t.ns = ns at *
            generalize t.tr = tr at *
            generalize t.wt = wt at *
            generalize t.le = le at *
            generalize t.a = ta at *
            generalize t.c = tc at *
            go_wp2
            obtain ⟨W2, hW2⟩ : ∃ W2, W2 = wr.alloc (.cells #[.slice ta k tc, .int .i64 tr, .int .i64 wt, .int .i64 le] 46) := ⟨_, rfl⟩
            rw [← hW2] at HB2 bx hI ⊢
            have hz : wr.heap.size < W2.heap.size := by rw [hW2]; simp
            have HI : Hid (IsI W2 ta tc ns) := hI
            have x0 := bx.1 0 _ rfl
            have x1 := bx.1 1 _ rfl
            have x2 := bx.1 2 _ rfl
            have x3 := bx.1 3 _ rfl
            clear hW2 hI bx hB
            go_loopw [35] (fun v wq => ∃ i : Nat, i ≤ k ∧ v = .int .i64 i ∧ Hid (needsB n 0 (ns.take i) = true) ∧ wq = W2) (fun v _ => k - (intOf v).toNat)
            case atStart => exact ⟨0, by omega, rfl, rfl, rfl⟩
            case round =>
              obtain ⟨i, hi, rfl, HL, rfl⟩ := hrel
              by_cases hil : i < k
              · have hil' : (i : Int) < k := by omega
                obtain ⟨x, hx⟩ : ∃ x, ns[i]? = some x := ⟨_, List.getElem?_eq_getElem (by rw [← HK.out]; exact hil)⟩
                obtain ⟨b2, o2, rfl, -, hc⟩ := HI.out.2.2 i x hx
                clear good hA hNo
                by_cases h3 : x < 0
                · have hneg : Hid (¬ (nextN 0 (ns.take i) ≤ x ∧ x < n)) := fun h => by have := needsB_from HL.out; omega
                  have e : Hid (tasksB (plainT ts) = false) := bad.out (needsNo.out (needsB_bad hx hneg.out))
                  clear bad needsNo HL hx hneg
                  go_wp2
                  go_ret
                  exact ⟨by rw [e.out]; rfl, HB2.out⟩
                · by_cases h4 : x < n
                  · have h4' : ¬ (n : Int) ≤ x := by omega
                    by_cases h5 : i = 0
                    · subst h5
                      have G : Hid (needsB n 0 (ns.take (0 + 1)) = true) := needsB_take hx HL.out (by show (0 : Int) ≤ x; omega) h4
                      clear bad needsNo HL hx
                      rw [Nat.add_zero] at hc
                      go_wp2
                      go_roundw
                      case rel => exact ⟨0 + 1, by omega, by go_num, G, trivial⟩
                      case measure => simp [intOf]; omega
                    · obtain ⟨i0, rfl⟩ : ∃ i0, i = i0 + 1 := ⟨i - 1, by omega⟩
                      obtain ⟨y, hy⟩ : ∃ y, ns[i0]? = some y := ⟨_, List.getElem?_eq_getElem (by rw [← HK.out]; omega)⟩
                      obtain ⟨b3, o3, e3, -, hd⟩ := HI.out.2.2 i0 y hy
                      obtain ⟨rfl, rfl⟩ : b2 = b3 ∧ o2 = o3 := by cases e3; exact ⟨rfl, rfl⟩
                      have hnx : Hid (nextN 0 (ns.take (i0 + 1)) = y + 1) := nextN_take hy
                      have hi0 : (0 : Int) < (i0 + 1 : Nat) := by omega
                      by_cases h6 : y < x
                      · have h6' : ¬ x ≤ y := by omega
                        have G : Hid (needsB n 0 (ns.take (i0 + 1 + 1)) = true) := needsB_take hx HL.out (by rw [hnx.out]; omega) h4
                        clear bad needsNo HL hx hnx hy
                        go_wp2
                        go_roundw
                        case rel => exact ⟨i0 + 1 + 1, by omega, by go_num, G, trivial⟩
                        case measure => simp [intOf]; omega
                      · have h6' : x ≤ y := by omega
                        have e : Hid (tasksB (plainT ts) = false) := bad.out (needsNo.out (needsB_bad hx (by rw [hnx.out]; omega)))
                        clear bad needsNo HL hx hnx hy
                        go_wp2
                        go_ret
                        exact ⟨by rw [e.out]; rfl, HB2.out⟩
                  · have h4' : (n : Int) ≤ x := by omega
                    have e : Hid (tasksB (plainT ts) = false) := bad.out (needsNo.out (needsB_bad hx (fun h => h4 h.2)))
                    clear bad needsNo HL hx
                    go_wp2
                    go_ret
                    exact ⟨by rw [e.out]; rfl, HB2.out⟩
              · obtain rfl : i = k := by omega
                have hx : ¬ (i : Int) < i := by omega
                have hN : needsB n 0 ns = true := by
                  have := HL.out
                  rw [HK.out, List.take_length] at this
                  exact this
                replace hA : Hid (1 ≤ tr ∧ tr ≤ 8 ∧ 0 ≤ wt ∧ wt ≤ 1048576 ∧ 1 ≤ le ∧ le ≤ 1048576 → taskB n t.p = true) := hA.out hN
                clear hN HL needsNo
                by_cases h1 : 1 ≤ tr
                · have h1' : ¬ tr < 1 := by omega
                  by_cases h2 : tr ≤ 8
                  · have h2' : ¬ 8 < tr := by omega
                    by_cases h3 : 0 ≤ wt
                    · have h3' : ¬ wt < 0 := by omega
                      by_cases h4 : wt ≤ 1048576
                      · have h4' : ¬ 1048576 < wt := by omega
                        by_cases h5 : 1 ≤ le
                        · have h5' : ¬ le < 1 := by omega
                          by_cases h6 : le ≤ 1048576
                          · have h6' : ¬ 1048576 < le := by omega
                            have G : Hid (TasksTo n (plainT ts) (j + 1)) := good.out (hA.out ⟨h1, h2, h3, h4, h5, h6⟩)
                            clear bad good hA hNo
                            go_wp2
                            go_roundw
                            case rel => exact ⟨j + 1, by omega, by go_num, G, HB2.out⟩
                            case measure => simp [intOf]; omega
                          · have h6' : 1048576 < le := by omega
                            have e : Hid (tasksB (plainT ts) = false) := bad.out (hNo.out (fun h => by omega))
                            clear bad good hA hNo
                            go_wp2
                            go_ret
                            exact ⟨by rw [e.out]; rfl, HB2.out⟩
                        · have h5' : le < 1 := by omega
                          have e : Hid (tasksB (plainT ts) = false) := bad.out (hNo.out (fun h => by omega))
                          clear bad good hA hNo
                          go_wp2
                          go_ret
                          exact ⟨by rw [e.out]; rfl, HB2.out⟩
                      · have h4' : 1048576 < wt := by omega
                        have e : Hid (tasksB (plainT ts) = false) := bad.out (hNo.out (fun h => by omega))
                        clear bad good hA hNo
                        go_wp2
                        go_ret
                        exact ⟨by rw [e.out]; rfl, HB2.out⟩
                    · have h3' : wt < 0 := by omega
                      have e : Hid (tasksB (plainT ts) = false) := bad.out (hNo.out (fun h => by omega))
                      clear bad good hA hNo
                      go_wp2
                      go_ret
                      exact ⟨by rw [e.out]; rfl, HB2.out⟩
                  · have h2' : 8 < tr := by omega
                    have e : Hid (tasksB (plainT ts) = false) := bad.out (hNo.out (fun h => by omega))
                    clear bad good hA hNo
                    go_wp2
                    go_ret
                    exact ⟨by rw [e.out]; rfl, HB2.out⟩
                · have h1' : tr < 1 := by omega
                  have e : Hid (tasksB (plainT ts) = false) := bad.out (hNo.out (fun h => by omega))
                  clear bad good hA hNo
                  go_wp2
                  go_ret
                  exact ⟨by rw [e.out]; rfl, HB2.out⟩
          · obtain rfl : j = n := by omega
            have e : Hid (tasksB (plainT ts) = true) := tasksTo_all (by rw [HP.out]; exact HA.out)
            have hx : ¬ (j : Int) < j := by omega
            clear HA
            go_wp2
            go_ret
            exact ⟨by rw [e.out]; rfl, hB⟩
      · have h2' : (16 : Int) < s.size := by omega
        have E : Hid (nameB s = false) := by show _ = _; unfold nameB; rw [decide_eq_false (fun h => h2 h.2)]
        go_enter Try.func22, Try.ntmps22
        go_wp2
        go_ret
        exact ⟨by rw [E.out]; rfl, hB0⟩
    · have h1' : (s.size : Int) < 1 := by omega
      have E : Hid (nameB s = false) := by show _ = _; unfold nameB; rw [decide_eq_false (fun h => h1 h.1)]
      go_enter Try.func22, Try.ntmps22
      go_wp2
      go_ret
      exact ⟨by rw [E.out]; rfl, hB0⟩
  · have h0' : (n : Int) < 1 := by omega
    have E : Hid ((nameB s && decide (0 < n) && tasksB (plainT ts)) = false) := by show _ = _; rw [decide_eq_false h0, Bool.and_false]; rfl
    go_enter Try.func22, Try.ntmps22
    go_wp2
    go_ret
    exact ⟨by rw [E.out]; rfl, hB0⟩

end Go.Proofs.Ytmjhapkhfelbpaa
