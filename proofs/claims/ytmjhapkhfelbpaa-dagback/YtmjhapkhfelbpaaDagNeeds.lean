/-
  Package dag: isName, areNeeds, areTasks; the document's own shaped.
-/
import Derived.Test.YtmjhapkhfelbpaaDagMem
import Derived.Test.YtmjhapkhfelbpaaDagShape
namespace Go.Proofs.Ytmjhapkhfelbpaa
open Go.RowKit Plain
set_option linter.unusedVariables false

theorem isName_any (s : ByteArray) (w : World) : Calls Try.prog 27 #[.string s] w fun e w' => e = .returned (.bool (nameB s)) ∧ w = w' := by
  by_cases h0 : s.size = 0
  · have hs : s = ⟨#[]⟩ := ByteArray.ext (Array.ext_getElem? (fun i => by
      have : s.data.size = 0 := h0
      rw [Array.getElem?_eq_none (by omega)]; rfl))
    subst hs
    have e : nameB ⟨#[]⟩ = false := by decide
    rw [e]
    go_enter Try.func27, Try.ntmps27
    go_wp2
    go_ret
    exact ⟨rfl, rfl⟩
  · have hne : ¬ s = ⟨#[]⟩ := fun h => h0 (by rw [h]; rfl)
    have q1 := str_ne_true hne
    have q2 : s.toList.isEmpty = false := by
      rw [ByteArray.toList_eq]
      cases hd : s.data.toList with
      | nil => exfalso; apply h0; show s.data.size = 0; rw [← Array.length_toList, hd]; rfl
      | cons x xs => rfl
    by_cases h1 : s.size ≤ 16
    · have e : nameB s = true := by unfold nameB; rw [decide_eq_true_eq]; omega
      rw [e]
      have h1' : (s.size : Int) ≤ 16 := by omega
      go_enter Try.func27, Try.ntmps27
      go_wp2
      go_ret
      exact ⟨rfl, rfl⟩
    · have e : nameB s = false := by unfold nameB; rw [decide_eq_false_iff_not]; omega
      rw [e]
      have h1' : ¬ (s.size : Int) ≤ 16 := by omega
      go_enter Try.func27, Try.ntmps27
      go_wp2
      go_ret
      exact ⟨rfl, rfl⟩

set_option maxRecDepth 20000 in
set_option maxHeartbeats 1000000 in
/-- ARE NEEDS. -/
theorem areNeeds_any (a : Option Addr) (c k n : Nat) (ns : List Int) (w : World) (hk : k = ns.length) (hI : IsI w a c ns) (hn : n ≤ 4096) :
    Calls Try.prog 42 #[.slice a k c, .int .i64 n] w fun e w' => e = .returned (.bool (needsB n 0 ns)) ∧ w = w' := by
  have hkm : k ≤ 9223372036854775807 := by rw [hk]; exact Nat.le_trans hI.1 hI.2.1
  have HI : Hid (IsI w a c ns) := hI
  have HK : Hid (k = ns.length) := hk
  clear hI hk
  go_enter Try.func42, Try.ntmps42
  go_wp2
  go_loopw [5, 10] (fun b v wr => ∃ (j : Nat) (l : Int), j ≤ k ∧ v = .int .i64 j ∧ b = .int .i64 l ∧ 0 ≤ l ∧ Hid (l = nextN 0 (ns.take j)) ∧ Hid (needsB n 0 (ns.take j) = true) ∧ w = wr) (fun _ v _ => k - (intOf v).toNat)
  case atStart => exact ⟨0, 0, by omega, rfl, rfl, Int.le_refl _, rfl, rfl, rfl⟩
  case round =>
    obtain ⟨j, l, hj, rfl, rfl, hl, HL, HB, rfl⟩ := hrel
    by_cases hlt : j < k
    · have hlt' : (j : Int) < k := by omega
      obtain ⟨x, hx⟩ : ∃ x, ns[j]? = some x := ⟨_, List.getElem?_eq_getElem (by rw [← HK.out]; exact hlt)⟩
      obtain ⟨b, o, rfl, -, hc⟩ := HI.out.2.2 j x hx
      by_cases h1 : l ≤ x
      · have h1' : ¬ x < l := by omega
        by_cases h2 : x < n
        · have h2' : ¬ (n : Int) ≤ x := by omega
          have h0 : 0 ≤ x := by omega
          have hL2 : Hid (x + 1 = nextN 0 (ns.take (j + 1))) := (nextN_take hx).symm
          have hB2 : Hid (needsB n 0 (ns.take (j + 1)) = true) := needsB_take hx HB.out (by rw [← HL.out]; exact h1) h2
          clear hx HL HB
          go_wp2
          go_roundw
          case rel => exact ⟨j + 1, x + 1, by omega, by go_num, rfl, by omega, hL2, hB2, trivial⟩
          case measure => simp [intOf]; omega
        · have h2' : (n : Int) ≤ x := by omega
          have e : Hid (needsB n 0 ns = false) := needsB_bad hx (fun h => h2 h.2)
          clear hx HL HB
          go_wp2
          go_ret
          exact ⟨by rw [e.out]; rfl, rfl⟩
      · have h1' : x < l := by omega
        have e : Hid (needsB n 0 ns = false) := needsB_bad hx (fun h => h1 (by rw [HL.out]; exact h.1))
        clear hx HL HB
        go_wp2
        go_ret
        exact ⟨by rw [e.out]; rfl, rfl⟩
    · obtain rfl : j = k := by omega
      have e : Hid (needsB n 0 ns = true) := by
        have := HB.out
        rw [HK.out, List.take_length] at this
        exact this
      have hx : ¬ (j : Int) < j := by omega
      clear HL HB
      go_wp2
      go_ret
      exact ⟨by rw [e.out]; rfl, rfl⟩

set_option maxRecDepth 20000 in
set_option maxHeartbeats 2000000 in
/-- ARE TASKS. -/
theorem areTasks_any (a : Option Addr) (c n : Nat) (ts : List TaskV) (w : World) (hn : n = ts.length) (hT : IsT w a c ts) (h10 : n ≤ 10) :
    Calls Try.prog 28 #[.slice a n c] w fun e w' => e = .returned (.bool (decide (0 < n) && tasksB (plainT ts))) ∧ Below w.heap.size w w' := by
  have HT : Hid (IsT w a c ts) := hT
  have HN : Hid (n = ts.length) := hn
  have HP : Hid ((plainT ts).length = n) := by show _ = _; rw [plainT_length, hn]
  clear hT hn
  go_enter Try.func28, Try.ntmps28
  go_wp2
  go_loopw [7] (fun v wr => ∃ j : Nat, j ≤ n ∧ v = .int .i64 j ∧ Hid (TasksTo n (plainT ts) j) ∧ Below w.heap.size w wr) (fun v _ => n - (intOf v).toNat)
  case atStart => exact ⟨0, by omega, rfl, fun i t h => by omega, Below.refl _ _⟩
  case round =>
    obtain ⟨j, hj, rfl, HA, hB⟩ := hrel
    by_cases hlt : j < n
    · have hlt' : (j : Int) < n := by omega
      obtain ⟨t, ht⟩ : ∃ t, ts[j]? = some t := ⟨_, List.getElem?_eq_getElem (by rw [← HN.out]; exact hlt)⟩
      obtain ⟨b, o, rfl, hlb, c0, c1, c2, c3⟩ := HT.out.2.2.2 j t ht
      have z0 := cell_below hB c0
      have z1 := cell_below hB c1
      have z2 := cell_below hB c2
      have z3 := cell_below hB c3
      have hI := (HT.out.2.2.1 t (List.mem_of_getElem? ht)).below hB
      have cN : ∀ V, Below wr.heap.size wr V → Calls Try.prog 42 #[.slice t.a t.ns.length t.c, .int .i64 n] V fun e w' => e = .returned (.bool (needsB n 0 t.ns)) ∧ V = w' := fun V h => areNeeds_any t.a t.c t.ns.length n t.ns V rfl (hI.below h) (by omega)
      have hal : ∀ o', Below wr.heap.size wr (wr.alloc o') := fun o' => (Below.refl _ _).alloc (Nat.le_refl _) o'
      have bad : Hid (taskB n t.p = false → tasksB (plainT ts) = false) := fun h => tasksB_bad (plainT_get ht) (by rw [HP.out]; exact h)
      have good : Hid (taskB n t.p = true → TasksTo n (plainT ts) (j + 1)) := fun h => tasksTo_succ HA.out (plainT_get ht) h
      have hA : Hid (needsB n 0 t.ns = true → 1 ≤ t.tr ∧ t.tr ≤ 8 ∧ 0 ≤ t.wt ∧ t.wt ≤ 1048576 ∧ 1 ≤ t.le ∧ t.le ≤ 1048576 → taskB n t.p = true) := fun h1 h2 => (taskB_iff _ _).2 ⟨h1, h2⟩
      have hNo : Hid (¬ (needsB n 0 t.ns = true ∧ 1 ≤ t.tr ∧ t.tr ≤ 8 ∧ 0 ≤ t.wt ∧ t.wt ≤ 1048576 ∧ 1 ≤ t.le ∧ t.le ≤ 1048576) → taskB n t.p = false) := fun h => by rw [Bool.eq_false_iff]; exact fun h' => h ((taskB_iff _ _).1 h')
      generalize t.ns.length = k at *
      generalize t.tr = tr at *
      generalize t.wt = wt at *
      generalize t.le = le at *
      generalize t.a = ta at *
      generalize t.c = tc at *
      clear c0 c1 c2 c3 hI ht HA
      have hB2 : ∀ o', Below w.heap.size w (wr.alloc o') := fun o' => hB.alloc hB.size o'
      have hq0 : 0 < n := by omega
      cases hN : needsB n 0 t.ns with
      | false =>
        rw [hN] at cN hA hNo
        have e : Hid (tasksB (plainT ts) = false) := bad.out (hNo.out (fun h => by cases h.1))
        clear bad good hA hNo hN
        go_wp2_with (go_at_call 42; refine (cN _ (hal _)).mono ?_; rintro y w' ⟨rfl, rfl⟩)
        go_ret
        exact ⟨by rw [e.out, Bool.and_false]; rfl, hB2 _⟩
      | true =>
        rw [hN] at cN hA hNo
        clear hN
        by_cases h1 : 1 ≤ tr
        · have h1' : ¬ tr < 1 := by omega
          by_cases h2 : tr ≤ 8
          · have h2' : ¬ 8 < tr := by omega
            by_cases h3 : 0 ≤ wt
            · have h3' : ¬ wt < 0 := by omega
              by_cases h4 : wt ≤ 1048576
              · have h4' : ¬ 1048576 < wt := by omega
                by_cases h5 : 1 ≤ le
                · have h5' : ¬ le < 1 := by omega
                  by_cases h6 : le ≤ 1048576
                  · have h6' : ¬ 1048576 < le := by omega
                    have G : Hid (TasksTo n (plainT ts) (j + 1)) := good.out (hA.out rfl ⟨h1, h2, h3, h4, h5, h6⟩)
                    clear bad good hA hNo
                    go_wp2_with (go_at_call 42; refine (cN _ (hal _)).mono ?_; rintro y w' ⟨rfl, rfl⟩)
                    go_roundw
                    case rel => exact ⟨j + 1, by omega, by go_num, G, hB2 _⟩
                    case measure => simp [intOf]; omega
                  · have h6' : 1048576 < le := by omega
                    have e : Hid (tasksB (plainT ts) = false) := bad.out (hNo.out (fun h => by omega))
                    clear bad good hA hNo
                    go_wp2_with (go_at_call 42; refine (cN _ (hal _)).mono ?_; rintro y w' ⟨rfl, rfl⟩)
                    go_ret
                    exact ⟨by rw [e.out, Bool.and_false]; rfl, hB2 _⟩
                · have h5' : le < 1 := by omega
                  have e : Hid (tasksB (plainT ts) = false) := bad.out (hNo.out (fun h => by omega))
                  clear bad good hA hNo
                  go_wp2_with (go_at_call 42; refine (cN _ (hal _)).mono ?_; rintro y w' ⟨rfl, rfl⟩)
                  go_ret
                  exact ⟨by rw [e.out, Bool.and_false]; rfl, hB2 _⟩
              · have h4' : 1048576 < wt := by omega
                have e : Hid (tasksB (plainT ts) = false) := bad.out (hNo.out (fun h => by omega))
                clear bad good hA hNo
                go_wp2_with (go_at_call 42; refine (cN _ (hal _)).mono ?_; rintro y w' ⟨rfl, rfl⟩)
                go_ret
                exact ⟨by rw [e.out, Bool.and_false]; rfl, hB2 _⟩
            · have h3' : wt < 0 := by omega
              have e : Hid (tasksB (plainT ts) = false) := bad.out (hNo.out (fun h => by omega))
              clear bad good hA hNo
              go_wp2_with (go_at_call 42; refine (cN _ (hal _)).mono ?_; rintro y w' ⟨rfl, rfl⟩)
              go_ret
              exact ⟨by rw [e.out, Bool.and_false]; rfl, hB2 _⟩
          · have h2' : 8 < tr := by omega
            have e : Hid (tasksB (plainT ts) = false) := bad.out (hNo.out (fun h => by omega))
            clear bad good hA hNo
            go_wp2_with (go_at_call 42; refine (cN _ (hal _)).mono ?_; rintro y w' ⟨rfl, rfl⟩)
            go_ret
            exact ⟨by rw [e.out, Bool.and_false]; rfl, hB2 _⟩
        · have h1' : tr < 1 := by omega
          have e : Hid (tasksB (plainT ts) = false) := bad.out (hNo.out (fun h => by omega))
          clear bad good hA hNo
          go_wp2_with (go_at_call 42; refine (cN _ (hal _)).mono ?_; rintro y w' ⟨rfl, rfl⟩)
          go_ret
          exact ⟨by rw [e.out, Bool.and_false]; rfl, hB2 _⟩
    · obtain rfl : j = n := by omega
      have e : Hid (tasksB (plainT ts) = true) := tasksTo_all (by rw [HP.out]; exact HA.out)
      have hx : ¬ (j : Int) < j := by omega
      clear HA
      by_cases h0 : 0 < j
      · have h0' : (0 : Int) < j := by omega
        go_wp2
        go_ret
        exact ⟨by rw [e.out]; rfl, hB⟩
      · obtain rfl : j = 0 := by omega
        go_wp2
        go_ret
        exact ⟨rfl, hB⟩

end Go.Proofs.Ytmjhapkhfelbpaa
