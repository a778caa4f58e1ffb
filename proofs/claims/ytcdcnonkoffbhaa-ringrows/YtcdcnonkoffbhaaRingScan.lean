/-
  Package ring's Scan; the document's own Scan and Same.
-/
import Derived.Test.YtcdcnonkoffbhaaRingRef
import Derived.WalkMore
import Derived.Lib.AppendZeros
namespace Go.Proofs.Ytcdcnonkoffbhaa
open Go.RowKit Plain
set_option linter.unusedVariables false

set_option maxHeartbeats 1000000 in
/-- SAME, at all rows of texts. -/
theorem ringSame_any (a a' : Option Addr) (c c' : Nat) (l m : List ByteArray) (w : World) (hB : IsS w a c l) (hB' : IsS w a' c' m) :
    Calls Try.prog 14 #[.slice a l.length c, .slice a' m.length c'] w fun e w' => e = .returned (.bool (decide (l = m))) ∧ Below w.heap.size w w' := by
  obtain ⟨n, hn⟩ : ∃ n, n = l.length := ⟨_, rfl⟩
  obtain ⟨n', hn'⟩ : ∃ n, n = m.length := ⟨_, rfl⟩
  have HB : Hid (IsS w a c l) := hB
  have HB' : Hid (IsS w a' c' m) := hB'
  have HE : Hid (n = l.length) := hn
  have HE' : Hid (n' = m.length) := hn'
  have hnb : n ≤ 9223372036854775807 := by have := hB.1; have := hB.2.1; unfold maxLen at *; omega
  rw [← hn, ← hn']
  clear hB hB' hn hn'
  by_cases h : n = n'
  · have h' : (n : Int) = n' := by omega
    subst h
    go_enter Try.func14, Try.ntmps14
    go_wp2
    go_loopw [13] (fun v wr => ∃ j : Nat, j ≤ n ∧ v = .int .i64 j ∧ (∀ i, i < j → l[i]? = m[i]?) ∧ Below w.heap.size w wr) (fun v _ => n - (intOf v).toNat)
    case atStart => exact ⟨0, by omega, rfl, fun i hi => by omega, Below.refl _ _⟩
    case round =>
      obtain ⟨j, hj, rfl, hs, hbel⟩ := hrel
      have HS : Hid (∀ i, i < j → l[i]? = m[i]?) := hs
      clear hs
      by_cases hlt : j < n
      · have hlt' : (j : Int) < n := by omega
        obtain ⟨q, hq⟩ : ∃ q, Hid (l[j]? = some q) := ⟨_, List.getElem?_eq_getElem (by rw [← HE.out]; exact hlt)⟩
        obtain ⟨r, hr⟩ : ∃ q, Hid (m[j]? = some q) := ⟨_, List.getElem?_eq_getElem (by rw [← HE'.out]; exact hlt)⟩
        obtain ⟨b, o, rfl, hbl, hc0, _⟩ := HB.out.2.2 j q hq.out
        obtain ⟨b', o', rfl, hbl', hc0', _⟩ := HB'.out.2.2 j r hr.out
        have hc := cell_below hbel hc0
        have hc' := cell_below hbel hc0'
        by_cases e : q = r
        · have e1 := str_ne_false e
          go_wp2
          go_region
          go_wp2
          go_roundw
          case rel =>
            refine ⟨j + 1, by omega, by go_num, fun i hi => ?_, hbel.drew⟩
            by_cases ei : i = j
            · rw [ei, hq.out, hr.out, e]
            · exact HS.out i (by omega)
          case measure => simp [intOf]; omega
        · have e1 := str_ne_true e
          have hne : Hid (decide (l = m) = false) := by
            show _ = _
            rw [decide_eq_false_iff_not]
            rintro rfl
            have := hq.out
            rw [hr.out] at this
            exact e (Option.some.inj this).symm
          go_wp2
          go_region
          go_wp2
          go_ret
          exact ⟨ret_bool hne.out.symm, hbel.drew⟩
      · obtain rfl : j = n := by omega
        have heq : Hid (decide (l = m) = true) := by
          show _ = _
          rw [decide_eq_true_eq]
          apply List.ext_getElem?
          intro i
          by_cases hi : i < j
          · exact HS.out i hi
          · rw [List.getElem?_eq_none (by rw [← HE.out]; omega), List.getElem?_eq_none (by rw [← HE'.out]; omega)]
        go_wp2
        go_ret
        exact ⟨ret_bool heq.out.symm, hbel⟩
  · have h' : ((n : Int) != n') = true := by simp; omega
    have hne : Hid (decide (l = m) = false) := by
      show _ = _
      rw [decide_eq_false_iff_not]
      rintro rfl
      exact h (HE.out.trans HE'.out.symm)
    go_enter Try.func14, Try.ntmps14
    go_wp2
    go_ret
    exact ⟨ret_bool hne.out.symm, Below.refl _ _⟩


set_option maxRecDepth 20000 in
set_option maxHeartbeats 1000000 in
theorem ringScan_any (g : Int) (a : Option Addr) (c n : Nat) (xs : List ByteArray) (w : World) (hn : n = xs.length) (hS : IsS w a c xs) (hl : n ≤ 4096) :
    Calls Try.prog 15 #[.int .i64 g, .slice a n c] w fun e w' => ∃ a' c', e = .returned (.slice a' (scanR g 0 xs).length c') ∧ IsS w' a' c' (scanR g 0 xs) ∧ Below w.heap.size w w' := by
  have HS : Hid (IsS w a c xs) := hS
  have HN : Hid (n = xs.length) := hn
  have fin : ∀ (j : Nat) (b : Value) (wr : World), wr.ownsRow w.heap.size 9 1 b j (((xs.take j).map fun x => rgB x g).map Value.string) → scanR g 0 xs = (xs.take j).map (fun x => rgB x g) → ∃ a' c', b = .slice a' (scanR g 0 xs).length c' ∧ IsS wr a' c' (scanR g 0 xs) := by
    intro j b wr hown hsc
    obtain ⟨a', c', hb, hj, hI, _⟩ := owns_S hown (fun x hx => by
      obtain ⟨y, _, rfl⟩ := List.mem_map.1 hx
      have := rgB_size y g
      unfold maxLen; omega)
    rw [hsc]
    refine ⟨a', c', ?_, hI⟩
    rw [← hj]; exact hb
  have FIN : Hid _ := fin
  clear hn hS fin
  go_enter Try.func15, Try.ntmps15
  go_wp2
  go_step3
  go_wp2
  go_step3
  go_wp2
  go_loopw [5, 13] (fun b v wr => ∃ j : Nat, j ≤ n ∧ v = .int .i64 j ∧ wr.ownsRow w.heap.size 9 1 b j (((xs.take j).map fun x => rgB x g).map Value.string) ∧ Hid (AllR g xs j) ∧ Below w.heap.size w wr) (fun _ v _ => n - (intOf v).toNat)
  case atStart => exact ⟨0, by omega, rfl, World.ownsRow_nil _ _ _ _, fun i x hi => by omega, Below.refl _ _⟩
  case round =>
    obtain ⟨j, hj, rfl, hown, hAll, hB⟩ := hrel
    by_cases hlt : j < n
    · obtain ⟨x, hx⟩ : ∃ x, xs[j]? = some x := ⟨_, List.getElem?_eq_getElem (by rw [← HN.out]; exact hlt)⟩
      obtain ⟨bk, o, rfl, hbk, d0, hxs⟩ := HS.out.2.2 j x hx
      replace d0 := cell_below hB d0
      have c1 := fun W => ringGet_any x g W hxs
      have hjn : (j : Int) < n := by omega
      have HX : Hid (xs[j]? = some x) := hx
      have hE : Hid (rgE x g = rgE x g) := rfl
      obtain ⟨E, hEE⟩ : ∃ E, E = rgE x g := ⟨_, rfl⟩
      obtain ⟨N, hNN⟩ : ∃ N, N = rgN x g := ⟨_, rfl⟩
      obtain ⟨B, hBB⟩ : ∃ B, B = rgB x g := ⟨_, rfl⟩
      rw [← hEE, ← hNN, ← hBB] at c1
      have stop : Hid (¬ (E = 0 ∧ N = j) → scanR g 0 xs = (xs.take j).map (fun x => rgB x g)) := fun h => scan_stop hAll.out (fun y hy => by
        rw [HX.out] at hy
        obtain rfl := Option.some.inj hy
        rw [← hEE, ← hNN]; exact h)
      have goes : Hid (E = 0 ∧ N = j → AllR g xs (j + 1)) := fun h i y hi hy => by
        by_cases hij : i = j
        · subst hij
          rw [HX.out] at hy
          obtain rfl := Option.some.inj hy
          rw [← hEE, ← hNN]; exact h
        · exact hAll.out i y (by omega) hy
      have hnext : Hid ((xs.take (j + 1)).map (fun x => rgB x g) = (xs.take j).map (fun x => rgB x g) ++ [B]) := by
        show _ = _
        rw [List.take_add_one, HX.out, Option.toList_some, List.map_append, hBB]
        rfl
      replace hown : Hid _ := hown
      clear hx hE hEE hNN hBB
      by_cases h0 : E = 0
      · by_cases h1 : N = j
        · have HG : Hid (AllR g xs (j + 1)) := goes.out ⟨h0, h1⟩
          subst h0 h1
          clear goes stop
          go_wp2_with (first
            | (go_at_call 11; refine (c1 _).mono ?_; rintro e w2 ⟨rfl, hb⟩; have hB2 := Below.tr hB hb; have hown2 := (Turns.of_below (P := fun _ => False) hb).owns hown.out (fun _ _ h => h); obtain ⟨g', cap, w3, hrun, hown3, hgr, hat, hge, hlt'⟩ := push_S w2 w.heap.size u5 j _ B hown2 hB2.size (by omega); have hB3 : Below w.heap.size w w3 := (hB2.alloc hB2.size _).grown hgr (by simp; exact Nat.le_succ_of_le hB2.size) (fun k hk => (hown2.lt k hk).1); have HO3 : Hid _ := hown3; clear hb hown2 hgr hat hge hlt' hown3)
            | (at_builtin; refine Lib.wpList_append_run _ rfl _ _ _ _ rfl _ _ rfl rfl _ _ hrun ?_))
          go_roundw
          case rel => exact ⟨j + 1, by omega, by go_num, by rw [hnext.out]; exact HO3.out, HG.out, hB3⟩
          case measure => simp [intOf]; omega
        · have h1' : (N == (j : Int)) = false := by simpa using h1
          have HF : Hid (scanR g 0 xs = (xs.take j).map (fun x => rgB x g)) := stop.out (fun h => h1 h.2)
          subst h0
          clear goes stop hnext
          go_wp2_with (go_at_call 11; refine (c1 _).mono ?_; rintro e w2 ⟨rfl, hb⟩; have hB2 := Below.tr hB hb; have hown2 := (Turns.of_below (P := fun _ => False) hb).owns hown.out (fun _ _ h => h); clear hb)
          obtain ⟨a', c', e, hI⟩ := FIN.out j _ _ hown2 HF.out
          try rw [Exit.noGoto_ret]
          go_ret
          exact ⟨a', c', by rw [← e]; rfl, hI, hB2⟩
      · have h0' : (E == 0) = false := by simpa using h0
        have HF : Hid (scanR g 0 xs = (xs.take j).map (fun x => rgB x g)) := stop.out (fun h => h0 h.1)
        clear goes stop hnext
        go_wp2_with (go_at_call 11; refine (c1 _).mono ?_; rintro e w2 ⟨rfl, hb⟩; have hB2 := Below.tr hB hb; have hown2 := (Turns.of_below (P := fun _ => False) hb).owns hown.out (fun _ _ h => h); clear hb)
        obtain ⟨a', c', e, hI⟩ := FIN.out j _ _ hown2 HF.out
        try rw [Exit.noGoto_ret]
        go_ret
        exact ⟨a', c', by rw [← e]; rfl, hI, hB2⟩
    · obtain rfl : j = n := by omega
      have HF : Hid (scanR g 0 xs = (xs.take j).map (fun x => rgB x g)) := by
        have := hAll.out
        show _ = _
        have hl := HN.out
        exact scan_stop this (fun x hx => by rw [List.getElem?_eq_none (by omega)] at hx; cases hx)
      replace hown : Hid _ := hown
      go_wp2
      obtain ⟨a', c', e, hI⟩ := FIN.out j _ _ hown.out HF.out
      try rw [Exit.noGoto_ret]
      go_ret
      exact ⟨a', c', by rw [← e]; rfl, hI, hB⟩

set_option maxRecDepth 20000 in
set_option maxHeartbeats 1000000 in
theorem refRingScan_any (g : Int) (a : Option Addr) (c n : Nat) (xs : List ByteArray) (w : World) (hn : n = xs.length) (hS : IsS w a c xs) (hl : n ≤ 4096) :
    Calls Try.prog 16 #[.int .i64 g, .slice a n c] w fun e w' => ∃ a' c', e = .returned (.slice a' (scanR g 0 xs).length c') ∧ IsS w' a' c' (scanR g 0 xs) ∧ Below w.heap.size w w' := by
  have HS : Hid (IsS w a c xs) := hS
  have HN : Hid (n = xs.length) := hn
  have fin : ∀ (j : Nat) (b : Value) (wr : World), wr.ownsRow w.heap.size 9 1 b j (((xs.take j).map fun x => rgB x g).map Value.string) → scanR g 0 xs = (xs.take j).map (fun x => rgB x g) → ∃ a' c', b = .slice a' (scanR g 0 xs).length c' ∧ IsS wr a' c' (scanR g 0 xs) := by
    intro j b wr hown hsc
    obtain ⟨a', c', hb, hj, hI, _⟩ := owns_S hown (fun x hx => by
      obtain ⟨y, _, rfl⟩ := List.mem_map.1 hx
      have := rgB_size y g
      unfold maxLen; omega)
    rw [hsc]
    refine ⟨a', c', ?_, hI⟩
    rw [← hj]; exact hb
  have FIN : Hid _ := fin
  clear hn hS fin
  go_enter Try.func16, Try.ntmps16
  go_wp2
  go_loopw [5, 14] (fun b v wr => ∃ j : Nat, j ≤ n ∧ v = .int .i64 j ∧ wr.ownsRow w.heap.size 9 1 b j (((xs.take j).map fun x => rgB x g).map Value.string) ∧ Hid (AllR g xs j) ∧ Below w.heap.size w wr) (fun _ v _ => n - (intOf v).toNat)
  case atStart => exact ⟨0, by omega, rfl, World.ownsRow_made _ _ 0 (Nat.le_refl _) (by decide) rfl, fun i x hi => by omega, (Below.refl _ _).alloc (Nat.le_refl _) _⟩
  case round =>
    obtain ⟨j, hj, rfl, hown, hAll, hB⟩ := hrel
    by_cases hlt : j < n
    · obtain ⟨x, hx⟩ : ∃ x, xs[j]? = some x := ⟨_, List.getElem?_eq_getElem (by rw [← HN.out]; exact hlt)⟩
      obtain ⟨bk, o, rfl, hbk, d0, hxs⟩ := HS.out.2.2 j x hx
      replace d0 := cell_below hB d0
      have c1 := fun W => refRingGet_any x g W hxs
      have hjn : (j : Int) < n := by omega
      have HX : Hid (xs[j]? = some x) := hx
      have hE : Hid (rgE x g = rgE x g) := rfl
      obtain ⟨E, hEE⟩ : ∃ E, E = rgE x g := ⟨_, rfl⟩
      obtain ⟨N, hNN⟩ : ∃ N, N = rgN x g := ⟨_, rfl⟩
      obtain ⟨B, hBB⟩ : ∃ B, B = rgB x g := ⟨_, rfl⟩
      rw [← hEE, ← hNN, ← hBB] at c1
      have stop : Hid (¬ (E = 0 ∧ N = j) → scanR g 0 xs = (xs.take j).map (fun x => rgB x g)) := fun h => scan_stop hAll.out (fun y hy => by
        rw [HX.out] at hy
        obtain rfl := Option.some.inj hy
        rw [← hEE, ← hNN]; exact h)
      have goes : Hid (E = 0 ∧ N = j → AllR g xs (j + 1)) := fun h i y hi hy => by
        by_cases hij : i = j
        · subst hij
          rw [HX.out] at hy
          obtain rfl := Option.some.inj hy
          rw [← hEE, ← hNN]; exact h
        · exact hAll.out i y (by omega) hy
      have hnext : Hid ((xs.take (j + 1)).map (fun x => rgB x g) = (xs.take j).map (fun x => rgB x g) ++ [B]) := by
        show _ = _
        rw [List.take_add_one, HX.out, Option.toList_some, List.map_append, hBB]
        rfl
      replace hown : Hid _ := hown
      clear hx hE hEE hNN hBB
      by_cases h0 : E = 0
      · by_cases h1 : N = j
        · have HG : Hid (AllR g xs (j + 1)) := goes.out ⟨h0, h1⟩
          subst h0 h1
          clear goes stop
          go_wp2_with (first
            | (go_at_call 12; refine (c1 _).mono ?_; rintro e w2 ⟨rfl, hb⟩; have hB2 := Below.tr hB hb; have hown2 := (Turns.of_below (P := fun _ => False) hb).owns hown.out (fun _ _ h => h); obtain ⟨g', cap, w3, hrun, hown3, hgr, hat, hge, hlt'⟩ := push_S w2 w.heap.size u5 j _ B hown2 hB2.size (by omega); have hB3 : Below w.heap.size w w3 := (hB2.alloc hB2.size _).grown hgr (by simp; exact Nat.le_succ_of_le hB2.size) (fun k hk => (hown2.lt k hk).1); have HO3 : Hid _ := hown3; clear hb hown2 hgr hat hge hlt' hown3)
            | (at_builtin; refine Lib.wpList_append_run _ rfl _ _ _ _ rfl _ _ rfl rfl _ _ hrun ?_))
          go_roundw
          case rel => exact ⟨j + 1, by omega, by go_num, by rw [hnext.out]; exact HO3.out, HG.out, hB3⟩
          case measure => simp [intOf]; omega
        · have h1' : (N == (j : Int)) = false := by simpa using h1
          have HF : Hid (scanR g 0 xs = (xs.take j).map (fun x => rgB x g)) := stop.out (fun h => h1 h.2)
          subst h0
          clear goes stop hnext
          go_wp2_with (go_at_call 12; refine (c1 _).mono ?_; rintro e w2 ⟨rfl, hb⟩; have hB2 := Below.tr hB hb; have hown2 := (Turns.of_below (P := fun _ => False) hb).owns hown.out (fun _ _ h => h); clear hb)
          obtain ⟨a', c', e, hI⟩ := FIN.out j _ _ hown2 HF.out
          go_ret
          exact ⟨a', c', by rw [← e]; rfl, hI, hB2⟩
      · have h0' : (E == 0) = false := by simpa using h0
        have HF : Hid (scanR g 0 xs = (xs.take j).map (fun x => rgB x g)) := stop.out (fun h => h0 h.1)
        clear goes stop hnext
        go_wp2_with (go_at_call 12; refine (c1 _).mono ?_; rintro e w2 ⟨rfl, hb⟩; have hB2 := Below.tr hB hb; have hown2 := (Turns.of_below (P := fun _ => False) hb).owns hown.out (fun _ _ h => h); clear hb)
        obtain ⟨a', c', e, hI⟩ := FIN.out j _ _ hown2 HF.out
        go_ret
        exact ⟨a', c', by rw [← e]; rfl, hI, hB2⟩
    · obtain rfl : j = n := by omega
      have HF : Hid (scanR g 0 xs = (xs.take j).map (fun x => rgB x g)) := by
        have := hAll.out
        show _ = _
        have hl := HN.out
        exact scan_stop this (fun x hx => by rw [List.getElem?_eq_none (by omega)] at hx; cases hx)
      replace hown : Hid _ := hown
      go_wp2
      obtain ⟨a', c', e, hI⟩ := FIN.out j _ _ hown.out HF.out
      go_ret
      exact ⟨a', c', by rw [← e]; rfl, hI, hB⟩

end Go.Proofs.Ytcdcnonkoffbhaa
