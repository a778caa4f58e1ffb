/-
  The walk through the statement SuperChooses.
-/
import Derived.Test.YtpjbikofomhcdaaSuperChoose
import Derived.Test.YtpjbikofomhcdaaSuperRow
import Derived.Test.YtpjbikofomhcdaaNodeJoined
import Derived.Test.YtpjbikofomhcdaaAnyheld
namespace Go.Proofs.Ytpjbikofomhcdaa
open Go.RowKit Plain
set_option linter.unusedVariables false

theorem take_append {c : Prop} [Decidable c] {A B : Prop} (hc : c) (h : A) : if c then A else B := by rw [if_pos hc]; exact h

theorem at_le (z : Int) (n : Nat) (hn : n ≤ 6) : ∃ k : Nat, k ≤ n ∧ (wrap64 (wrap64 (z.tmod ((n : Int) + 1) + n) + 1)).tmod ((n : Int) + 1) = k := by
  have h1 := Int.tmod_lt_of_pos z (b := (n : Int) + 1) (by omega)
  have h2 := Int.lt_tmod_of_pos z (b := (n : Int) + 1) (by omega)
  generalize z.tmod ((n : Int) + 1) = t at *
  have e1 : wrap64 (t + n) = t + n := by unfold wrap64; omega
  have e2 : wrap64 (t + n + 1) = t + n + 1 := by unfold wrap64; omega
  rw [e1, e2, Int.tmod_eq_emod_of_nonneg (by omega)]
  have h3 := Int.emod_lt_of_pos (t + n + 1) (b := (n : Int) + 1) (by omega)
  have h4 := Int.emod_nonneg (t + n + 1) (b := (n : Int) + 1) (by omega)
  generalize (t + n + 1) % ((n : Int) + 1) = u at *
  exact ⟨u.toNat, by omega, by omega⟩

set_option maxHeartbeats 1000000 in
theorem superChooses_junk (a : Option Addr) (c n : Nat) (q : ByteArray) (z : Int) (w : World) (hq : q.size ≤ maxLen) (h0 : suE q = 0) :
    Calls Try.prog 6 #[.slice a n c, .string q, .int .i64 z] w fun e w' => e = .returned (.bool true) ∧ Below w.heap.size w w' := by
  have c1 := fun W => suGet_any q W hq
  have c3 := alive12_any
  rw [h0] at c1
  clear h0
  generalize suG q = G at *
  generalize suR q = R at *
  generalize suM q = M at *
  generalize suZ q = Z at *
  go_enter Try.func6, Try.ntmps6
  go_wp2_with (first
    | (go_at_call 12; refine (c1 _).mono ?_; rintro e w1 ⟨rfl, hb⟩; have hB := hb.alloc hb.size (.cells #[.int .i64 G, .int .i64 R, .int .i64 M, .int .i64 Z] 23); clear hb)
    | (go_at_call 9; refine (c3 _).mono ?_; rintro e w2 ⟨rfl, hb⟩; replace hB := Below.tr hB hb; clear hb))
  go_ret
  exact ⟨rfl, hB⟩

set_option maxHeartbeats 4000000 in
theorem superChooses_rest (a : Option Addr) (c : Nat) (us : List Sup) (q : ByteArray) (z : Int) (w : World) (hU0 : IsU w a c us) (hq : q.size ≤ maxLen) (hz : -9223372036854775808 ≤ z ∧ z ≤ 9223372036854775807) (h0 : ¬ suE q = 0) :
    Calls Try.prog 6 #[.slice a us.length c, .string q, .int .i64 z] w fun e w' => e = .returned (.bool true) ∧ Below w.heap.size w w' := by
  obtain ⟨vs, hvs⟩ : ∃ vs, vs = us.take 6 := ⟨_, rfl⟩
  have hU : IsU w a c vs := by rw [hvs]; exact hU0.take 6
  obtain ⟨n, hn⟩ : ∃ n, n = vs.length := ⟨_, rfl⟩
  have hmin : min (us.length : Int) 6 = (n : Int) := by rw [hn, hvs, List.length_take]; omega
  have hl : n ≤ 6 := by rw [hn, hvs, List.length_take]; omega
  have hnc : n ≤ c := by rw [hn]; exact hU.1
  have hm : us.length ≤ 9223372036854775807 := hU0.size
  have hc' : c ≤ 9223372036854775807 := hU.2.1
  have hlc : us.length ≤ c := hU0.1
  have c1 := fun W => suGet_any q W hq
  rw [show suG q = 0 by rw [suG, if_neg h0], show suR q = 0 by rw [suR, if_neg h0], show suM q = 0 by rw [suM, if_neg h0], show suZ q = 0 by rw [suZ, if_neg h0]] at c1
  obtain ⟨E, hE⟩ : ∃ x, x = suE q := ⟨_, rfl⟩
  rw [← hE] at c1
  have h0' : (E == 0) = false := by rw [beq_eq_false_iff_ne, hE]; exact h0
  have H0 : Hid (¬ suE q = 0) := h0
  have HN : Hid (n = vs.length) := hn
  have HU : Hid (IsU w a c vs) := hU
  have HZ : Hid (∀ x ∈ vs.map (bytU q), x.size ≤ maxLen) := byt_size hq vs
  obtain ⟨l, hll⟩ : ∃ l, l = us.length := ⟨_, rfl⟩
  rw [← hll] at hmin hm hlc ⊢
  have hzl := hz.1
  have hzu := hz.2
  clear hvs hU0 hU hn hll hE h0 hz
  have rmin := min_run hmin
  go_enter Try.func6, Try.ntmps6
  go_wp2_with (go_at_call 12; refine (c1 _).mono ?_; rintro e w1 ⟨rfl, hb⟩; have hB0 := hb.alloc hb.size (.cells #[.int .i64 0, .int .i64 0, .int .i64 0, .int .i64 0] 23); clear hb)
  go_loopw [9, 10, 37] (fun b m v wr => ∃ (j : Nat) (M : Int), j ≤ n ∧ v = .int .i64 j ∧ m = .int .i64 M ∧ M = mostU (vs.take j) ∧ wr.ownsRow w.heap.size 9 1 b j (((vs.take j).map (bytU q)).map Value.string) ∧ Below w.heap.size w wr) (fun _ _ v _ => n - (intOf v).toNat)
  case atStart => exact ⟨0, 0, by omega, rfl, rfl, rfl, World.ownsRow_nil _ _ _ _, hB0⟩
  case round =>
    obtain ⟨j, M, hj, rfl, rfl, hM, hown, hB⟩ := hrel
    by_cases hlt : j < n
    · obtain ⟨⟨g, r, m, y⟩, hx⟩ : ∃ x, vs[j]? = some x := ⟨_, List.getElem?_eq_getElem (by rw [← HN.out]; exact hlt)⟩
      obtain ⟨bk, o, rfl, hbk, d0, d1, d2, d3⟩ := HU.out.2.2 j _ hx
      replace d0 := cell_below hB d0
      replace d1 := cell_below hB d1
      replace d2 := cell_below hB d2
      replace d3 := cell_below hB d3
      have hmn : Hid (mostU (vs.take (j + 1)) = if okU (g, r, m, y) then max (mostU (vs.take j)) g else mostU (vs.take j)) := most_next hx
      have hbn : Hid ((vs.take (j + 1)).map (bytU q) = (vs.take j).map (bytU q) ++ [bytU q (g, r, m, y)]) := byt_next hx
      have c2 := fun W => suPut_any g r m y W
      replace hM : Hid (M = mostU (vs.take j)) := hM
      have hjn : (j : Int) < n := by omega
      replace hown : Hid _ := hown
      clear hx
      cases hr : rightSu g r m y with
      | true =>
        rw [show suP g r m y = 0 by rw [suP, if_pos hr]] at c2
        have hb' : Hid (bytU q (g, r, m, y) = suS g r m y) := by show _ = _; unfold bytU; rw [if_pos (show okU (g, r, m, y) = true from hr)]; rfl
        obtain ⟨M', hM'⟩ : ∃ M', M' = max M g := ⟨_, rfl⟩
        have hmn' : Hid (M' = mostU (vs.take (j + 1))) := by show _ = _; rw [hmn.out, if_pos (show okU (g, r, m, y) = true from hr), hM', hM.out]
        have rmax := max_run hM'.symm
        generalize suS g r m y = x at *
        clear hmn hr hM' hbk
        go_wp2_with (first
          | (go_at_call 7; refine (c2 _).mono ?_; rintro e w2 ⟨rfl, hb⟩; have T := box4_cells hb; have hBw := below_box hb; have hB2 := Below.tr hB hBw; have hown2 := (Turns.of_below (P := fun _ => False) hBw).owns hown.out (fun _ _ h => h); obtain ⟨g', cap, w3, hrun, hown3, hgr, hat, hge, hlt'⟩ := push_S w2 w.heap.size u9 j _ x hown2 hB2.size (by omega); have hB3 : Below w.heap.size w w3 := (hB2.alloc hB2.size _).grown hgr (by simp; exact Nat.le_succ_of_le hB2.size) (fun k hk => (hown2.lt k hk).1); have HO3 : Hid _ := hown3; obtain ⟨⟨t0, -, -, -⟩, -⟩ := id T; clear hb hBw hown2 hgr hat hge hlt' hown3 T)
          | (at_builtin; refine Lib.wpList_append_run _ rfl _ _ _ _ rfl _ _ rfl rfl _ _ hrun ?_))
        go_roundw
        case rel => exact ⟨j + 1, M', by omega, by go_num, rfl, hmn'.out, by rw [hbn.out, hb'.out]; exact HO3.out, hB3⟩
        case measure => simp [intOf]; omega
      | false =>
        have hrn : ¬ rightSu g r m y = true := by rw [hr]; decide
        rw [show suP g r m y = 1 by rw [suP, if_neg hrn], show suS g r m y = ⟨#[]⟩ by rw [suS, if_neg hrn]] at c2
        have hb' : Hid (bytU q (g, r, m, y) = q) := by show _ = _; unfold bytU; rw [if_neg (show ¬ okU (g, r, m, y) = true from hrn)]
        have hmn' : Hid (M = mostU (vs.take (j + 1))) := by show _ = _; rw [hmn.out, if_neg (show ¬ okU (g, r, m, y) = true from hrn), hM.out]
        clear hmn hr hrn hbk
        go_wp2_with (first
          | (go_at_call 7; refine (c2 _).mono ?_; rintro e w2 ⟨rfl, hb⟩; have T := box4_cells hb; have hBw := below_box hb; have hB2 := Below.tr hB hBw; have hown2 := (Turns.of_below (P := fun _ => False) hBw).owns hown.out (fun _ _ h => h); obtain ⟨g', cap, w3, hrun, hown3, hgr, hat, hge, hlt'⟩ := push_S w2 w.heap.size u9 j _ q hown2 hB2.size (by omega); have hB3 : Below w.heap.size w w3 := (hB2.alloc hB2.size _).grown hgr (by simp; exact Nat.le_succ_of_le hB2.size) (fun k hk => (hown2.lt k hk).1); have HO3 : Hid _ := hown3; obtain ⟨⟨t0, -, -, -⟩, -⟩ := id T; clear hb hBw hown2 hgr hat hge hlt' hown3 T)
          | (at_builtin; refine Lib.wpList_append_run _ rfl _ _ _ _ rfl _ _ rfl rfl _ _ hrun ?_))
        go_roundw
        case rel => exact ⟨j + 1, M, by omega, by go_num, rfl, hmn'.out, by rw [hbn.out, hb'.out]; exact HO3.out, hB3⟩
        case measure => simp [intOf]; omega
    · obtain rfl : n = j := by omega
      have hn0 : ¬ (n : Int) < n := by omega
      obtain ⟨bys, hbys⟩ : ∃ bys, bys = vs.map (bytU q) := ⟨_, rfl⟩
      have htk : (vs.take n).map (bytU q) = bys := by rw [HN.out, List.take_length, hbys]
      have hmo : Hid (M = mostU vs) := by show _ = _; rw [hM, HN.out, List.take_length]
      rw [htk] at hown
      have hsz : ∀ x ∈ bys, x.size ≤ maxLen := by rw [hbys]; exact HZ.out
      obtain ⟨a2, d2, rfl, hlen, hS2, hfr⟩ := owns_S hown hsz
      have HBY : Hid (bys = vs.map (bytU q)) := hbys
      have HL : Hid (n = bys.length) := hlen
      have HS : Hid (IsS wr a2 d2 bys) := hS2
      have hnd : n ≤ d2 := by have := hS2.1; omega
      have hdl : d2 ≤ 9223372036854775807 := hS2.2.1
      clear hj hlt hM hown htk hsz hlen hS2 hbys
      go_wp2
      obtain ⟨k, hk, ek⟩ := at_le z n hl
      rw [ek]
      obtain ⟨V0, hV0⟩ : ∃ V, V = wr.drew := ⟨_, rfl⟩
      replace HS : Hid (IsS V0 a2 d2 bys) := by rw [hV0]; exact HS.out.below (Below.refl _ _).drew
      replace hB : Below w.heap.size w V0 := by rw [hV0]; exact hB.drew
      have HV0 : Hid (V0 = wr.drew) := hV0
      clear hV0 ek
      have hkd : k ≤ d2 := by omega
      have hT1 : IsS V0 a2 d2 (bys.take k) := HS.out.take k
      have hl1 : k = (bys.take k).length := by rw [List.length_take, ← HL.out]; omega
      have HZ' : Hid (∀ x ∈ bys.take k ++ [q] ++ bys.drop k, x.size ≤ maxLen) := by
        show ∀ x ∈ _, _
        have hz := HZ.out
        rw [← HBY.out] at hz
        intro x hx
        rcases List.mem_append.1 hx with hx | hx
        · rcases List.mem_append.1 hx with hx | hx
          · exact hz x (List.mem_of_mem_take hx)
          · rw [List.mem_singleton.1 hx]; exact hq
        · exact hz x (List.mem_of_mem_drop hx)
      have D1 : Hid (IsS V0 a2 d2 (bys.take k) ∧ k = (bys.take k).length) := ⟨hT1, hl1⟩
      clear hT1 hl1
      refine (fun (key : Hid (∀ X a4 c4 y1 y2 y3 y4 y5, IsS X a4 c4 (bys.take k ++ [q] ++ bys.drop k) → Below V0.heap.size V0 X → (?prop : World → Option Addr → Nat → Value → Value → Value → Value → Value → Prop) X a4 c4 y1 y2 y3 y4 y5)) => ?reg) ?kont
      case reg =>
        by_cases hdk : ¬ d2 = k
        · have D3 : Hid (IsS V0 (Option.map (fun x => x.add k) a2) (d2 - k) (bys.drop k) ∧ n - k = (bys.drop k).length) := by
            refine ⟨⟨?_, ?_, fun j x hx => ?_⟩, ?_⟩
            · rw [List.length_drop, ← HL.out]; omega
            · have := HS.out.2.1; omega
            · rw [List.getElem?_drop] at hx
              obtain ⟨bb, oo, rfl, h1, h2, h3⟩ := HS.out.2.2 _ _ hx
              exact ⟨bb, oo + k, by rw [Option.map_some, at_add], h1, by rw [Nat.add_assoc]; exact h2, h3⟩
            · rw [List.length_drop, ← HL.out]
          refine wp_region_noPanic ?_
          refine wp_region_held_drew (S := fun X => True) (by kernel_rfl) trivial (fun hHeld => ?_)
          rw [← HV0.out]
          refine take_at (i := 1) (v := ?_) rfl (by kernel_rfl) (by kernel_rfl) (by kernel_rfl) (fun _ _ _ h => h) (Or.inl ⟨by rfl, ?_⟩) (by assumption) ?_
          rotate_left 1
          · (intro w hSw; (try dsimp only at hSw); go_simp; (try with_reducible rfl))
          try simp only [Act.put, List.setIfInBounds_toArray, List.set_cons_zero, List.set_cons_succ]
          refine take_at (i := 2) (v := ?_) rfl (by kernel_rfl) (by kernel_rfl) (by kernel_rfl) (fun _ _ _ h => h) (Or.inl ⟨by rfl, ?_⟩) (by assumption) ?_
          rotate_left 1
          · (intro w hSw; (try dsimp only at hSw); go_simp; (try with_reducible rfl))
          try simp only [Act.put, List.setIfInBounds_toArray, List.set_cons_zero, List.set_cons_succ]
          refine take_at (i := 3) (v := ?_) rfl (by kernel_rfl) (by kernel_rfl) (by kernel_rfl) (fun _ _ _ h => h) (Or.inl ⟨by rfl, ?_⟩) (by assumption) ?_
          rotate_left 1
          · (intro w hSw; (try dsimp only at hSw); go_simp; (try with_reducible rfl))
          try simp only [Act.put, List.setIfInBounds_toArray, List.set_cons_zero, List.set_cons_succ]
          refine take_at (i := 5) (v := ?_) rfl (by kernel_rfl) (by kernel_rfl) (by kernel_rfl) (fun _ _ _ h => h) (Or.inl ⟨by rfl, ?_⟩) (by assumption) ?_
          rotate_left 1
          · (intro w hSw; (try dsimp only at hSw); go_simp; (try with_reducible rfl))
          try simp only [Act.put, List.setIfInBounds_toArray, List.set_cons_zero, List.set_cons_succ]
          refine take_at (i := 8) (v := ?_) rfl (by kernel_rfl) (by kernel_rfl) (by kernel_rfl) (fun _ _ _ h => h) (Or.inl ⟨by rfl, ?_⟩) (by assumption) ?_
          rotate_left 1
          · (intro w hSw; (try dsimp only at hSw); go_simp; (try with_reducible rfl))
          try simp only [Act.put, List.setIfInBounds_toArray, List.set_cons_zero, List.set_cons_succ]
          refine take_at (i := 9) (v := ?_) rfl (by kernel_rfl) (by kernel_rfl) (by kernel_rfl) (fun _ _ _ h => h) (Or.inl ⟨by rfl, ?_⟩) (by assumption) ?_
          rotate_left 1
          · (intro w hSw; (try dsimp only at hSw); go_simp; (try with_reducible rfl))
          try simp only [Act.put, List.setIfInBounds_toArray, List.set_cons_zero, List.set_cons_succ]
          refine take_at (i := 10) (v := ?_) rfl (by kernel_rfl) (by kernel_rfl) (by kernel_rfl) (fun _ _ _ h => h) (Or.inl ⟨by rfl, ?_⟩) (by assumption) ?_
          rotate_left 1
          · (intro w hSw; (try dsimp only at hSw); go_simp; (try with_reducible rfl))
          try simp only [Act.put, List.setIfInBounds_toArray, List.set_cons_zero, List.set_cons_succ]
          refine wpAnyH_ready (rs := [0, 6]) (by kernel_rfl) (by simp) ?_
          refine cons_at (i := 0) rfl (fun K hK => ?c0) (cons_at (i := 6) rfl (fun K hK => ?c6) AllReadyH.nil)
          case c0 =>
            go_simp
            have own0 := World.ownsRow_made (base := V0.heap.size) (e := 9) (size := 1) V0 #[] 0 (Nat.le_refl _) (Nat.zero_le _) rfl
            have hb1 := (Below.refl V0.heap.size V0).alloc (Nat.le_refl _) (.cells #[] 9)
            refine hK.out _ _ ?_ (fun hHeld1 => ?_)
            · trivial
            clear hK K
            try simp only [Act.put, List.setIfInBounds_toArray, List.set_cons_zero, List.set_cons_succ]
            refine wpAnyH_ready (rs := [4, 6]) (by kernel_rfl) (by simp) ?_
            refine cons_at (i := 4) rfl (fun K hK => ?c04) (cons_at (i := 6) rfl (fun K hK => ?c06) AllReadyH.nil)
            case c04 =>
              obtain ⟨v1, X2, hrun1, own1, gr1, at1⟩ := append_S (V0.alloc (.cells #[] 9)) V0.heap.size _ 0 [] own0 (by simp) a2 d2 k (bys.take k) D1.out.2 (D1.out.1.below hb1) (by omega)
              have hb2 : Below V0.heap.size V0 X2 := hb1.grown gr1 (by simp) (fun k hk => (own0.lt k hk).1)
              refine take_append (by rfl) (Lib.wp_append_run _ _ _ _ _ rfl _ _ rfl rfl _ _ hrun1 ?_)
              refine hK.out _ _ ?_ (fun hHeld1 => ?_)
              · trivial
              clear hK K
              try simp only [Act.put, List.setIfInBounds_toArray, List.set_cons_zero, List.set_cons_succ]
              refine wpAnyH_ready (rs := [6]) (by kernel_rfl) (by simp) ?_
              refine cons_at (i := 6) rfl (fun K hK => ?_) AllReadyH.nil
              go_simp
              have IJ := isS_one X2 q hq
              have hb3 := hb2.alloc hb2.size (.cells #[.string q] 9)
              replace own1 := own1.alloc (.cells #[.string q] 9)
              refine hK.out _ _ ?_ (fun hHeld1 => ?_)
              · trivial
              clear hK K
              try simp only [Act.put, List.setIfInBounds_toArray, List.set_cons_zero, List.set_cons_succ]
              generalize X2.alloc (.cells #[.string q] 9) = X3 at *
              generalize X2.heap.size = jb at *
              generalize hee : Value.slice (some ⟨V0.heap.size, 0, none⟩) 0 0 = e0 at *
              obtain ⟨v2, X4, hrun2, own2, gr2, at2⟩ := append_S X3 V0.heap.size v1 _ _ own1 hb3.size (some ⟨jb, 0, none⟩) 1 1 [q] rfl IJ (by omega)
              have hb4 : Below V0.heap.size V0 X4 := hb3.grown gr2 hb3.size (fun k hk => (own1.lt k hk).1)
              obtain ⟨v3, X5, hrun3, own3, gr3, at3⟩ := append_S X4 V0.heap.size v2 _ _ own2 hb4.size (Option.map (fun x => x.add k) a2) (d2 - k) (n - k) (bys.drop k) D3.out.2 (D3.out.1.below hb4) (by omega)
              have hb5 : Below V0.heap.size V0 X5 := hb4.grown gr3 hb4.size (fun k hk => (own2.lt k hk).1)
              rw [show 0 + k + 1 + (n - k) = n + 1 by omega, List.nil_append] at own3
              obtain ⟨a4, c4, rfl, hlen4, hS4, hf4⟩ := owns_S own3 HZ'.out
              clear hlen4
              refine wpAnyH_ready (rs := [7]) (by kernel_rfl) (by simp) ?_
              refine cons_at (i := 7) rfl (fun K hK => ?_) AllReadyH.nil
              refine take_append (by rfl) (Lib.wp_append_run _ _ _ _ _ rfl _ _ rfl rfl _ _ hrun2 ?_)
              refine hK.out _ _ ?_ (fun hHeld1 => ?_)
              · trivial
              clear hK K
              try simp only [Act.put, List.setIfInBounds_toArray, List.set_cons_zero, List.set_cons_succ]
              refine wpAnyH_ready (rs := [11]) (by kernel_rfl) (by simp) ?_
              refine cons_at (i := 11) rfl (fun K hK => ?_) AllReadyH.nil
              refine take_append (by rfl) (Lib.wp_append_run _ _ _ _ _ rfl _ _ rfl rfl _ _ hrun3 ?_)
              refine hK.out _ _ ?_ (fun hHeld1 => ?_)
              · trivial
              clear hK K
              try simp only [Act.put, List.setIfInBounds_toArray, List.set_cons_zero, List.set_cons_succ]
              refine take_at (i := 12) (v := ?_) rfl (by kernel_rfl) (by kernel_rfl) (by kernel_rfl) (fun _ _ _ h => h) (Or.inl ⟨by rfl, ?_⟩) (by assumption) ?_
              rotate_left 1
              · (intro w hSw; (try dsimp only at hSw); go_simp; (try with_reducible rfl))
              try simp only [Act.put, List.setIfInBounds_toArray, List.set_cons_zero, List.set_cons_succ]
              refine wpAnyH_done (by kernel_rfl) ?_ _
              refine NoPanic.normal ?_
              generalize Value.slice (some ⟨jb, 0, none⟩) 1 1 = y3
              generalize Value.slice (Option.map (fun x => x.add k) a2) (n - k) (d2 - k) = y5
              generalize e0 = y1
              exact key.out X5 a4 c4 y1 v1 y3 v2 y5 hS4 hb5
            case c06 =>
              go_simp
              have IJ := isS_one (V0.alloc (.cells #[] 9)) q hq
              simp only [World.size_alloc] at IJ
              have hb2 := hb1.alloc hb1.size (.cells #[.string q] 9)
              replace own0 := own0.alloc (.cells #[.string q] 9)
              refine hK.out _ _ ?_ (fun hHeld1 => ?_)
              · trivial
              clear hK K
              try simp only [Act.put, List.setIfInBounds_toArray, List.set_cons_zero, List.set_cons_succ]
              refine wpAnyH_ready (rs := [4]) (by kernel_rfl) (by simp) ?_
              refine cons_at (i := 4) rfl (fun K hK => ?_) AllReadyH.nil
              generalize (V0.alloc (.cells #[] 9)).alloc (.cells #[.string q] 9) = X2 at *
              obtain ⟨v1, X3, hrun1, own1, gr1, at1⟩ := append_S X2 V0.heap.size _ 0 [] own0 hb2.size a2 d2 k (bys.take k) D1.out.2 (D1.out.1.below hb2) (by omega)
              have hb3 : Below V0.heap.size V0 X3 := hb2.grown gr1 hb2.size (fun k hk => (own0.lt k hk).1)
              have t1 : Turns (fun k => k = V0.heap.size) X2 X3 := (Turns.refl _ _).grown gr1 (fun k hk => by simp [Value.ownBlock] at hk; exact hk.symm)
              replace IJ := IJ.turns t1 (fun x hx => by cases hx; show ¬ V0.heap.size + 1 = V0.heap.size; omega)
              refine take_append (by rfl) (Lib.wp_append_run _ _ _ _ _ rfl _ _ rfl rfl _ _ hrun1 ?_)
              refine hK.out _ _ ?_ (fun hHeld1 => ?_)
              · trivial
              clear hK K
              try simp only [Act.put, List.setIfInBounds_toArray, List.set_cons_zero, List.set_cons_succ]
              generalize V0.heap.size + 1 = jb at IJ ⊢
              generalize hee : Value.slice (some ⟨V0.heap.size, 0, none⟩) 0 0 = e0 at *
              obtain ⟨v2, X4, hrun2, own2, gr2, at2⟩ := append_S X3 V0.heap.size v1 _ _ own1 hb3.size (some ⟨jb, 0, none⟩) 1 1 [q] rfl IJ (by omega)
              have hb4 : Below V0.heap.size V0 X4 := hb3.grown gr2 hb3.size (fun k hk => (own1.lt k hk).1)
              obtain ⟨v3, X5, hrun3, own3, gr3, at3⟩ := append_S X4 V0.heap.size v2 _ _ own2 hb4.size (Option.map (fun x => x.add k) a2) (d2 - k) (n - k) (bys.drop k) D3.out.2 (D3.out.1.below hb4) (by omega)
              have hb5 : Below V0.heap.size V0 X5 := hb4.grown gr3 hb4.size (fun k hk => (own2.lt k hk).1)
              rw [show 0 + k + 1 + (n - k) = n + 1 by omega, List.nil_append] at own3
              obtain ⟨a4, c4, rfl, hlen4, hS4, hf4⟩ := owns_S own3 HZ'.out
              clear hlen4
              refine wpAnyH_ready (rs := [7]) (by kernel_rfl) (by simp) ?_
              refine cons_at (i := 7) rfl (fun K hK => ?_) AllReadyH.nil
              refine take_append (by rfl) (Lib.wp_append_run _ _ _ _ _ rfl _ _ rfl rfl _ _ hrun2 ?_)
              refine hK.out _ _ ?_ (fun hHeld1 => ?_)
              · trivial
              clear hK K
              try simp only [Act.put, List.setIfInBounds_toArray, List.set_cons_zero, List.set_cons_succ]
              refine wpAnyH_ready (rs := [11]) (by kernel_rfl) (by simp) ?_
              refine cons_at (i := 11) rfl (fun K hK => ?_) AllReadyH.nil
              refine take_append (by rfl) (Lib.wp_append_run _ _ _ _ _ rfl _ _ rfl rfl _ _ hrun3 ?_)
              refine hK.out _ _ ?_ (fun hHeld1 => ?_)
              · trivial
              clear hK K
              try simp only [Act.put, List.setIfInBounds_toArray, List.set_cons_zero, List.set_cons_succ]
              refine take_at (i := 12) (v := ?_) rfl (by kernel_rfl) (by kernel_rfl) (by kernel_rfl) (fun _ _ _ h => h) (Or.inl ⟨by rfl, ?_⟩) (by assumption) ?_
              rotate_left 1
              · (intro w hSw; (try dsimp only at hSw); go_simp; (try with_reducible rfl))
              try simp only [Act.put, List.setIfInBounds_toArray, List.set_cons_zero, List.set_cons_succ]
              refine wpAnyH_done (by kernel_rfl) ?_ _
              refine NoPanic.normal ?_
              generalize Value.slice (some ⟨jb, 0, none⟩) 1 1 = y3
              generalize Value.slice (Option.map (fun x => x.add k) a2) (n - k) (d2 - k) = y5
              generalize e0 = y1
              exact key.out X5 a4 c4 y1 v1 y3 v2 y5 hS4 hb5
          case c6 =>
            go_simp
            have IJ := isS_one V0 q hq
            have hb1 := (Below.refl V0.heap.size V0).alloc (Nat.le_refl _) (.cells #[.string q] 9)
            refine hK.out _ _ ?_ (fun hHeld1 => ?_)
            · trivial
            clear hK K
            try simp only [Act.put, List.setIfInBounds_toArray, List.set_cons_zero, List.set_cons_succ]
            refine wpAnyH_ready (rs := [0]) (by kernel_rfl) (by simp) ?_
            refine cons_at (i := 0) rfl (fun K hK => ?_) AllReadyH.nil
            go_simp
            have own0 := World.ownsRow_made (base := V0.heap.size) (e := 9) (size := 1) (V0.alloc (.cells #[.string q] 9)) #[] 0 (by simp) (Nat.zero_le _) rfl
            simp only [World.size_alloc] at own0
            have hA := (Below.refl (V0.alloc (.cells #[.string q] 9)).heap.size (V0.alloc (.cells #[.string q] 9))).alloc (Nat.le_refl _) (.cells #[] 9)
            replace IJ := IJ.below hA
            have hb2 := hb1.alloc hb1.size (.cells #[] 9)
            refine hK.out _ _ ?_ (fun hHeld1 => ?_)
            · trivial
            clear hK K
            try simp only [Act.put, List.setIfInBounds_toArray, List.set_cons_zero, List.set_cons_succ]
            refine wpAnyH_ready (rs := [4]) (by kernel_rfl) (by simp) ?_
            refine cons_at (i := 4) rfl (fun K hK => ?_) AllReadyH.nil
            clear hA hb1
            generalize (V0.alloc (.cells #[.string q] 9)).alloc (.cells #[] 9) = X2 at *
            obtain ⟨v1, X3, hrun1, own1, gr1, at1⟩ := append_S X2 V0.heap.size _ 0 [] own0 hb2.size a2 d2 k (bys.take k) D1.out.2 (D1.out.1.below hb2) (by omega)
            have hb3 : Below V0.heap.size V0 X3 := hb2.grown gr1 hb2.size (fun k hk => (own0.lt k hk).1)
            have t1 : Turns (fun k => k = V0.heap.size + 1) X2 X3 := (Turns.refl _ _).grown gr1 (fun k hk => by simp [Value.ownBlock] at hk; exact hk.symm)
            replace IJ := IJ.turns t1 (fun x hx => by cases hx; show ¬ V0.heap.size = V0.heap.size + 1; omega)
            refine take_append (by rfl) (Lib.wp_append_run _ _ _ _ _ rfl _ _ rfl rfl _ _ hrun1 ?_)
            refine hK.out _ _ ?_ (fun hHeld1 => ?_)
            · trivial
            clear hK K
            try simp only [Act.put, List.setIfInBounds_toArray, List.set_cons_zero, List.set_cons_succ]
            generalize hee : Value.slice (some ⟨V0.heap.size + 1, 0, none⟩) 0 0 = e0 at *
            obtain ⟨v2, X4, hrun2, own2, gr2, at2⟩ := append_S X3 V0.heap.size v1 _ _ own1 hb3.size (some ⟨V0.heap.size, 0, none⟩) 1 1 [q] rfl IJ (by omega)
            have hb4 : Below V0.heap.size V0 X4 := hb3.grown gr2 hb3.size (fun k hk => (own1.lt k hk).1)
            obtain ⟨v3, X5, hrun3, own3, gr3, at3⟩ := append_S X4 V0.heap.size v2 _ _ own2 hb4.size (Option.map (fun x => x.add k) a2) (d2 - k) (n - k) (bys.drop k) D3.out.2 (D3.out.1.below hb4) (by omega)
            have hb5 : Below V0.heap.size V0 X5 := hb4.grown gr3 hb4.size (fun k hk => (own2.lt k hk).1)
            rw [show 0 + k + 1 + (n - k) = n + 1 by omega, List.nil_append] at own3
            obtain ⟨a4, c4, rfl, hlen4, hS4, hf4⟩ := owns_S own3 HZ'.out
            clear hlen4
            refine wpAnyH_ready (rs := [7]) (by kernel_rfl) (by simp) ?_
            refine cons_at (i := 7) rfl (fun K hK => ?_) AllReadyH.nil
            refine take_append (by rfl) (Lib.wp_append_run _ _ _ _ _ rfl _ _ rfl rfl _ _ hrun2 ?_)
            refine hK.out _ _ ?_ (fun hHeld1 => ?_)
            · trivial
            clear hK K
            try simp only [Act.put, List.setIfInBounds_toArray, List.set_cons_zero, List.set_cons_succ]
            refine wpAnyH_ready (rs := [11]) (by kernel_rfl) (by simp) ?_
            refine cons_at (i := 11) rfl (fun K hK => ?_) AllReadyH.nil
            refine take_append (by rfl) (Lib.wp_append_run _ _ _ _ _ rfl _ _ rfl rfl _ _ hrun3 ?_)
            refine hK.out _ _ ?_ (fun hHeld1 => ?_)
            · trivial
            clear hK K
            try simp only [Act.put, List.setIfInBounds_toArray, List.set_cons_zero, List.set_cons_succ]
            refine take_at (i := 12) (v := ?_) rfl (by kernel_rfl) (by kernel_rfl) (by kernel_rfl) (fun _ _ _ h => h) (Or.inl ⟨by rfl, ?_⟩) (by assumption) ?_
            rotate_left 1
            · (intro w hSw; (try dsimp only at hSw); go_simp; (try with_reducible rfl))
            try simp only [Act.put, List.setIfInBounds_toArray, List.set_cons_zero, List.set_cons_succ]
            refine wpAnyH_done (by kernel_rfl) ?_ _
            refine NoPanic.normal ?_
            generalize Value.slice (some ⟨V0.heap.size, 0, none⟩) 1 1 = y3
            generalize Value.slice (Option.map (fun x => x.add k) a2) (n - k) (d2 - k) = y5
            generalize e0 = y1
            exact key.out X5 a4 c4 y1 v1 y3 v2 y5 hS4 hb5
        · replace hdk : d2 = k := Decidable.not_not.1 hdk
          obtain rfl : n = k := by omega
          obtain rfl : n = d2 := by omega
          have D3 : Hid (IsS V0 a2 0 (bys.drop n) ∧ 0 = (bys.drop n).length) := by
            have e : bys.drop n = [] := List.drop_of_length_le (by rw [← HL.out]; omega)
            rw [e]
            exact ⟨⟨Nat.le_refl _, Nat.zero_le _, fun j x hx => by simp at hx⟩, by simp⟩
          refine wp_region_noPanic ?_
          refine wp_region_held_drew (S := fun X => True) (by kernel_rfl) trivial (fun hHeld => ?_)
          rw [← HV0.out]
          refine take_at (i := 1) (v := ?_) rfl (by kernel_rfl) (by kernel_rfl) (by kernel_rfl) (fun _ _ _ h => h) (Or.inl ⟨by rfl, ?_⟩) (by assumption) ?_
          rotate_left 1
          · (intro w hSw; (try dsimp only at hSw); go_simp; (try with_reducible rfl))
          try simp only [Act.put, List.setIfInBounds_toArray, List.set_cons_zero, List.set_cons_succ]
          refine take_at (i := 2) (v := ?_) rfl (by kernel_rfl) (by kernel_rfl) (by kernel_rfl) (fun _ _ _ h => h) (Or.inl ⟨by rfl, ?_⟩) (by assumption) ?_
          rotate_left 1
          · (intro w hSw; (try dsimp only at hSw); go_simp; (try with_reducible rfl))
          try simp only [Act.put, List.setIfInBounds_toArray, List.set_cons_zero, List.set_cons_succ]
          refine take_at (i := 3) (v := ?_) rfl (by kernel_rfl) (by kernel_rfl) (by kernel_rfl) (fun _ _ _ h => h) (Or.inl ⟨by rfl, ?_⟩) (by assumption) ?_
          rotate_left 1
          · (intro w hSw; (try dsimp only at hSw); go_simp; (try with_reducible rfl))
          try simp only [Act.put, List.setIfInBounds_toArray, List.set_cons_zero, List.set_cons_succ]
          refine take_at (i := 5) (v := ?_) rfl (by kernel_rfl) (by kernel_rfl) (by kernel_rfl) (fun _ _ _ h => h) (Or.inl ⟨by rfl, ?_⟩) (by assumption) ?_
          rotate_left 1
          · (intro w hSw; (try dsimp only at hSw); go_simp; (try with_reducible rfl))
          try simp only [Act.put, List.setIfInBounds_toArray, List.set_cons_zero, List.set_cons_succ]
          refine take_at (i := 8) (v := ?_) rfl (by kernel_rfl) (by kernel_rfl) (by kernel_rfl) (fun _ _ _ h => h) (Or.inl ⟨by rfl, ?_⟩) (by assumption) ?_
          rotate_left 1
          · (intro w hSw; (try dsimp only at hSw); go_simp; (try with_reducible rfl))
          try simp only [Act.put, List.setIfInBounds_toArray, List.set_cons_zero, List.set_cons_succ]
          refine take_at (i := 9) (v := ?_) rfl (by kernel_rfl) (by kernel_rfl) (by kernel_rfl) (fun _ _ _ h => h) (Or.inl ⟨by rfl, ?_⟩) (by assumption) ?_
          rotate_left 1
          · (intro w hSw; (try dsimp only at hSw); go_simp; (try with_reducible rfl))
          try simp only [Act.put, List.setIfInBounds_toArray, List.set_cons_zero, List.set_cons_succ]
          refine take_at (i := 10) (v := ?_) rfl (by kernel_rfl) (by kernel_rfl) (by kernel_rfl) (fun _ _ _ h => h) (Or.inl ⟨by rfl, ?_⟩) (by assumption) ?_
          rotate_left 1
          · (intro w hSw; (try dsimp only at hSw); go_simp; (try with_reducible rfl))
          try simp only [Act.put, List.setIfInBounds_toArray, List.set_cons_zero, List.set_cons_succ]
          refine wpAnyH_ready (rs := [0, 6]) (by kernel_rfl) (by simp) ?_
          refine cons_at (i := 0) rfl (fun K hK => ?c0) (cons_at (i := 6) rfl (fun K hK => ?c6) AllReadyH.nil)
          case c0 =>
            go_simp
            have own0 := World.ownsRow_made (base := V0.heap.size) (e := 9) (size := 1) V0 #[] 0 (Nat.le_refl _) (Nat.zero_le _) rfl
            have hb1 := (Below.refl V0.heap.size V0).alloc (Nat.le_refl _) (.cells #[] 9)
            refine hK.out _ _ ?_ (fun hHeld1 => ?_)
            · trivial
            clear hK K
            try simp only [Act.put, List.setIfInBounds_toArray, List.set_cons_zero, List.set_cons_succ]
            refine wpAnyH_ready (rs := [4, 6]) (by kernel_rfl) (by simp) ?_
            refine cons_at (i := 4) rfl (fun K hK => ?c04) (cons_at (i := 6) rfl (fun K hK => ?c06) AllReadyH.nil)
            case c04 =>
              obtain ⟨v1, X2, hrun1, own1, gr1, at1⟩ := append_S (V0.alloc (.cells #[] 9)) V0.heap.size _ 0 [] own0 (by simp) a2 n n (bys.take n) D1.out.2 (D1.out.1.below hb1) (by omega)
              have hb2 : Below V0.heap.size V0 X2 := hb1.grown gr1 (by simp) (fun k hk => (own0.lt k hk).1)
              refine take_append (by rfl) (Lib.wp_append_run _ _ _ _ _ rfl _ _ rfl rfl _ _ hrun1 ?_)
              refine hK.out _ _ ?_ (fun hHeld1 => ?_)
              · trivial
              clear hK K
              try simp only [Act.put, List.setIfInBounds_toArray, List.set_cons_zero, List.set_cons_succ]
              refine wpAnyH_ready (rs := [6]) (by kernel_rfl) (by simp) ?_
              refine cons_at (i := 6) rfl (fun K hK => ?_) AllReadyH.nil
              go_simp
              have IJ := isS_one X2 q hq
              have hb3 := hb2.alloc hb2.size (.cells #[.string q] 9)
              replace own1 := own1.alloc (.cells #[.string q] 9)
              refine hK.out _ _ ?_ (fun hHeld1 => ?_)
              · trivial
              clear hK K
              try simp only [Act.put, List.setIfInBounds_toArray, List.set_cons_zero, List.set_cons_succ]
              generalize X2.alloc (.cells #[.string q] 9) = X3 at *
              generalize X2.heap.size = jb at *
              generalize hee : Value.slice (some ⟨V0.heap.size, 0, none⟩) 0 0 = e0 at *
              obtain ⟨v2, X4, hrun2, own2, gr2, at2⟩ := append_S X3 V0.heap.size v1 _ _ own1 hb3.size (some ⟨jb, 0, none⟩) 1 1 [q] rfl IJ (by omega)
              have hb4 : Below V0.heap.size V0 X4 := hb3.grown gr2 hb3.size (fun k hk => (own1.lt k hk).1)
              obtain ⟨v3, X5, hrun3, own3, gr3, at3⟩ := append_S X4 V0.heap.size v2 _ _ own2 hb4.size a2 0 0 (bys.drop n) D3.out.2 (D3.out.1.below hb4) (by omega)
              have hb5 : Below V0.heap.size V0 X5 := hb4.grown gr3 hb4.size (fun k hk => (own2.lt k hk).1)
              rw [show 0 + n + 1 + 0 = n + 1 by omega, List.nil_append] at own3
              obtain ⟨a4, c4, rfl, hlen4, hS4, hf4⟩ := owns_S own3 HZ'.out
              clear hlen4
              refine wpAnyH_ready (rs := [7]) (by kernel_rfl) (by simp) ?_
              refine cons_at (i := 7) rfl (fun K hK => ?_) AllReadyH.nil
              refine take_append (by rfl) (Lib.wp_append_run _ _ _ _ _ rfl _ _ rfl rfl _ _ hrun2 ?_)
              refine hK.out _ _ ?_ (fun hHeld1 => ?_)
              · trivial
              clear hK K
              try simp only [Act.put, List.setIfInBounds_toArray, List.set_cons_zero, List.set_cons_succ]
              refine wpAnyH_ready (rs := [11]) (by kernel_rfl) (by simp) ?_
              refine cons_at (i := 11) rfl (fun K hK => ?_) AllReadyH.nil
              refine take_append (by rfl) (Lib.wp_append_run _ _ _ _ _ rfl _ _ rfl rfl _ _ hrun3 ?_)
              refine hK.out _ _ ?_ (fun hHeld1 => ?_)
              · trivial
              clear hK K
              try simp only [Act.put, List.setIfInBounds_toArray, List.set_cons_zero, List.set_cons_succ]
              refine take_at (i := 12) (v := ?_) rfl (by kernel_rfl) (by kernel_rfl) (by kernel_rfl) (fun _ _ _ h => h) (Or.inl ⟨by rfl, ?_⟩) (by assumption) ?_
              rotate_left 1
              · (intro w hSw; (try dsimp only at hSw); go_simp; (try with_reducible rfl))
              try simp only [Act.put, List.setIfInBounds_toArray, List.set_cons_zero, List.set_cons_succ]
              refine wpAnyH_done (by kernel_rfl) ?_ _
              refine NoPanic.normal ?_
              generalize Value.slice (some ⟨jb, 0, none⟩) 1 1 = y3
              generalize Value.slice a2 0 0 = y5
              generalize e0 = y1
              exact key.out X5 a4 c4 y1 v1 y3 v2 y5 hS4 hb5
            case c06 =>
              go_simp
              have IJ := isS_one (V0.alloc (.cells #[] 9)) q hq
              simp only [World.size_alloc] at IJ
              have hb2 := hb1.alloc hb1.size (.cells #[.string q] 9)
              replace own0 := own0.alloc (.cells #[.string q] 9)
              refine hK.out _ _ ?_ (fun hHeld1 => ?_)
              · trivial
              clear hK K
              try simp only [Act.put, List.setIfInBounds_toArray, List.set_cons_zero, List.set_cons_succ]
              refine wpAnyH_ready (rs := [4]) (by kernel_rfl) (by simp) ?_
              refine cons_at (i := 4) rfl (fun K hK => ?_) AllReadyH.nil
              generalize (V0.alloc (.cells #[] 9)).alloc (.cells #[.string q] 9) = X2 at *
              obtain ⟨v1, X3, hrun1, own1, gr1, at1⟩ := append_S X2 V0.heap.size _ 0 [] own0 hb2.size a2 n n (bys.take n) D1.out.2 (D1.out.1.below hb2) (by omega)
              have hb3 : Below V0.heap.size V0 X3 := hb2.grown gr1 hb2.size (fun k hk => (own0.lt k hk).1)
              have t1 : Turns (fun k => k = V0.heap.size) X2 X3 := (Turns.refl _ _).grown gr1 (fun k hk => by simp [Value.ownBlock] at hk; exact hk.symm)
              replace IJ := IJ.turns t1 (fun x hx => by cases hx; show ¬ V0.heap.size + 1 = V0.heap.size; omega)
              refine take_append (by rfl) (Lib.wp_append_run _ _ _ _ _ rfl _ _ rfl rfl _ _ hrun1 ?_)
              refine hK.out _ _ ?_ (fun hHeld1 => ?_)
              · trivial
              clear hK K
              try simp only [Act.put, List.setIfInBounds_toArray, List.set_cons_zero, List.set_cons_succ]
              generalize V0.heap.size + 1 = jb at IJ ⊢
              generalize hee : Value.slice (some ⟨V0.heap.size, 0, none⟩) 0 0 = e0 at *
              obtain ⟨v2, X4, hrun2, own2, gr2, at2⟩ := append_S X3 V0.heap.size v1 _ _ own1 hb3.size (some ⟨jb, 0, none⟩) 1 1 [q] rfl IJ (by omega)
              have hb4 : Below V0.heap.size V0 X4 := hb3.grown gr2 hb3.size (fun k hk => (own1.lt k hk).1)
              obtain ⟨v3, X5, hrun3, own3, gr3, at3⟩ := append_S X4 V0.heap.size v2 _ _ own2 hb4.size a2 0 0 (bys.drop n) D3.out.2 (D3.out.1.below hb4) (by omega)
              have hb5 : Below V0.heap.size V0 X5 := hb4.grown gr3 hb4.size (fun k hk => (own2.lt k hk).1)
              rw [show 0 + n + 1 + 0 = n + 1 by omega, List.nil_append] at own3
              obtain ⟨a4, c4, rfl, hlen4, hS4, hf4⟩ := owns_S own3 HZ'.out
              clear hlen4
              refine wpAnyH_ready (rs := [7]) (by kernel_rfl) (by simp) ?_
              refine cons_at (i := 7) rfl (fun K hK => ?_) AllReadyH.nil
              refine take_append (by rfl) (Lib.wp_append_run _ _ _ _ _ rfl _ _ rfl rfl _ _ hrun2 ?_)
              refine hK.out _ _ ?_ (fun hHeld1 => ?_)
              · trivial
              clear hK K
              try simp only [Act.put, List.setIfInBounds_toArray, List.set_cons_zero, List.set_cons_succ]
              refine wpAnyH_ready (rs := [11]) (by kernel_rfl) (by simp) ?_
              refine cons_at (i := 11) rfl (fun K hK => ?_) AllReadyH.nil
              refine take_append (by rfl) (Lib.wp_append_run _ _ _ _ _ rfl _ _ rfl rfl _ _ hrun3 ?_)
              refine hK.out _ _ ?_ (fun hHeld1 => ?_)
              · trivial
              clear hK K
              try simp only [Act.put, List.setIfInBounds_toArray, List.set_cons_zero, List.set_cons_succ]
              refine take_at (i := 12) (v := ?_) rfl (by kernel_rfl) (by kernel_rfl) (by kernel_rfl) (fun _ _ _ h => h) (Or.inl ⟨by rfl, ?_⟩) (by assumption) ?_
              rotate_left 1
              · (intro w hSw; (try dsimp only at hSw); go_simp; (try with_reducible rfl))
              try simp only [Act.put, List.setIfInBounds_toArray, List.set_cons_zero, List.set_cons_succ]
              refine wpAnyH_done (by kernel_rfl) ?_ _
              refine NoPanic.normal ?_
              generalize Value.slice (some ⟨jb, 0, none⟩) 1 1 = y3
              generalize Value.slice a2 0 0 = y5
              generalize e0 = y1
              exact key.out X5 a4 c4 y1 v1 y3 v2 y5 hS4 hb5
          case c6 =>
            go_simp
            have IJ := isS_one V0 q hq
            have hb1 := (Below.refl V0.heap.size V0).alloc (Nat.le_refl _) (.cells #[.string q] 9)
            refine hK.out _ _ ?_ (fun hHeld1 => ?_)
            · trivial
            clear hK K
            try simp only [Act.put, List.setIfInBounds_toArray, List.set_cons_zero, List.set_cons_succ]
            refine wpAnyH_ready (rs := [0]) (by kernel_rfl) (by simp) ?_
            refine cons_at (i := 0) rfl (fun K hK => ?_) AllReadyH.nil
            go_simp
            have own0 := World.ownsRow_made (base := V0.heap.size) (e := 9) (size := 1) (V0.alloc (.cells #[.string q] 9)) #[] 0 (by simp) (Nat.zero_le _) rfl
            simp only [World.size_alloc] at own0
            have hA := (Below.refl (V0.alloc (.cells #[.string q] 9)).heap.size (V0.alloc (.cells #[.string q] 9))).alloc (Nat.le_refl _) (.cells #[] 9)
            replace IJ := IJ.below hA
            have hb2 := hb1.alloc hb1.size (.cells #[] 9)
            refine hK.out _ _ ?_ (fun hHeld1 => ?_)
            · trivial
            clear hK K
            try simp only [Act.put, List.setIfInBounds_toArray, List.set_cons_zero, List.set_cons_succ]
            refine wpAnyH_ready (rs := [4]) (by kernel_rfl) (by simp) ?_
            refine cons_at (i := 4) rfl (fun K hK => ?_) AllReadyH.nil
            clear hA hb1
            generalize (V0.alloc (.cells #[.string q] 9)).alloc (.cells #[] 9) = X2 at *
            obtain ⟨v1, X3, hrun1, own1, gr1, at1⟩ := append_S X2 V0.heap.size _ 0 [] own0 hb2.size a2 n n (bys.take n) D1.out.2 (D1.out.1.below hb2) (by omega)
            have hb3 : Below V0.heap.size V0 X3 := hb2.grown gr1 hb2.size (fun k hk => (own0.lt k hk).1)
            have t1 : Turns (fun k => k = V0.heap.size + 1) X2 X3 := (Turns.refl _ _).grown gr1 (fun k hk => by simp [Value.ownBlock] at hk; exact hk.symm)
            replace IJ := IJ.turns t1 (fun x hx => by cases hx; show ¬ V0.heap.size = V0.heap.size + 1; omega)
            refine take_append (by rfl) (Lib.wp_append_run _ _ _ _ _ rfl _ _ rfl rfl _ _ hrun1 ?_)
            refine hK.out _ _ ?_ (fun hHeld1 => ?_)
            · trivial
            clear hK K
            try simp only [Act.put, List.setIfInBounds_toArray, List.set_cons_zero, List.set_cons_succ]
            generalize hee : Value.slice (some ⟨V0.heap.size + 1, 0, none⟩) 0 0 = e0 at *
            obtain ⟨v2, X4, hrun2, own2, gr2, at2⟩ := append_S X3 V0.heap.size v1 _ _ own1 hb3.size (some ⟨V0.heap.size, 0, none⟩) 1 1 [q] rfl IJ (by omega)
            have hb4 : Below V0.heap.size V0 X4 := hb3.grown gr2 hb3.size (fun k hk => (own1.lt k hk).1)
            obtain ⟨v3, X5, hrun3, own3, gr3, at3⟩ := append_S X4 V0.heap.size v2 _ _ own2 hb4.size a2 0 0 (bys.drop n) D3.out.2 (D3.out.1.below hb4) (by omega)
            have hb5 : Below V0.heap.size V0 X5 := hb4.grown gr3 hb4.size (fun k hk => (own2.lt k hk).1)
            rw [show 0 + n + 1 + 0 = n + 1 by omega, List.nil_append] at own3
            obtain ⟨a4, c4, rfl, hlen4, hS4, hf4⟩ := owns_S own3 HZ'.out
            clear hlen4
            refine wpAnyH_ready (rs := [7]) (by kernel_rfl) (by simp) ?_
            refine cons_at (i := 7) rfl (fun K hK => ?_) AllReadyH.nil
            refine take_append (by rfl) (Lib.wp_append_run _ _ _ _ _ rfl _ _ rfl rfl _ _ hrun2 ?_)
            refine hK.out _ _ ?_ (fun hHeld1 => ?_)
            · trivial
            clear hK K
            try simp only [Act.put, List.setIfInBounds_toArray, List.set_cons_zero, List.set_cons_succ]
            refine wpAnyH_ready (rs := [11]) (by kernel_rfl) (by simp) ?_
            refine cons_at (i := 11) rfl (fun K hK => ?_) AllReadyH.nil
            refine take_append (by rfl) (Lib.wp_append_run _ _ _ _ _ rfl _ _ rfl rfl _ _ hrun3 ?_)
            refine hK.out _ _ ?_ (fun hHeld1 => ?_)
            · trivial
            clear hK K
            try simp only [Act.put, List.setIfInBounds_toArray, List.set_cons_zero, List.set_cons_succ]
            refine take_at (i := 12) (v := ?_) rfl (by kernel_rfl) (by kernel_rfl) (by kernel_rfl) (fun _ _ _ h => h) (Or.inl ⟨by rfl, ?_⟩) (by assumption) ?_
            rotate_left 1
            · (intro w hSw; (try dsimp only at hSw); go_simp; (try with_reducible rfl))
            try simp only [Act.put, List.setIfInBounds_toArray, List.set_cons_zero, List.set_cons_succ]
            refine wpAnyH_done (by kernel_rfl) ?_ _
            refine NoPanic.normal ?_
            generalize Value.slice (some ⟨V0.heap.size, 0, none⟩) 1 1 = y3
            generalize Value.slice a2 0 0 = y5
            generalize e0 = y1
            exact key.out X5 a4 c4 y1 v1 y3 v2 y5 hS4 hb5
      case kont =>
        intro X a4 c4 y1 y2 y3 y4 y5 hS4 hB4
        obtain ⟨t, i, hbest⟩ := best_any bys
        have hmt : suG t = M := by
          have hb' := hbest
          rw [HBY.out] at hb'
          rw [best_most H0.out hb', hmo.out]
        have hw := hbest.with H0.out k (by rw [← HL.out]; exact hk)
        have hin : ¬ M = 0 → i < n := fun h => by
          have p := (suG_pos (s := t)).1
          have := (List.getElem?_eq_some_iff.1 (hbest.2.2 (by omega)).1).1
          rw [HL.out]; exact this
        obtain ⟨i', hi'⟩ : ∃ i', i' = (if suG t = 0 then 0 else if k ≤ i then i + 1 else i) := ⟨_, rfl⟩
        rw [← hi'] at hw
        rw [hmt] at hi'
        have hlist : bys.take k ++ [q] ++ bys.drop k = bys.take k ++ q :: bys.drop k := by simp
        rw [hlist] at hS4
        have hl4 : n + 1 = (bys.take k ++ q :: bys.drop k).length := by rw [← hlist]; simp; rw [← HL.out]; omega
        have hSX : IsS X a2 d2 bys := HS.out.below hB4
        have cC : ∀ W, Below X.heap.size X W → Calls Try.prog 14 #[.slice a2 n d2] W fun e w' => e = .returned (.tuple #[.agg #[.int .i64 M, .int .i64 (suR t), .int .i64 (suM t), .int .i64 (suZ t)], .int .i64 i, .int .i64 (chE t)]) ∧ Below W.heap.size W w' := by
          rw [← hmt]; exact fun W hW => choose_any a2 d2 bys n t i W HL.out (hSX.below hW) hbest
        have cD : ∀ W, Below X.heap.size X W → Calls Try.prog 14 #[.slice a4 (n + 1) c4] W fun e w' => e = .returned (.tuple #[.agg #[.int .i64 M, .int .i64 (suR t), .int .i64 (suM t), .int .i64 (suZ t)], .int .i64 i', .int .i64 (chE t)]) ∧ Below W.heap.size W w' := by
          rw [← hmt]; exact fun W hW => choose_any a4 c4 _ (n + 1) t i' W hl4 (hS4.below hW) hw
        have c3 := alive12_any
        have hch : chE t = if M = 0 then 120 else 0 := by rw [chE, hmt]
        have hBX : Below w.heap.size w X := hB.trans (hB4.mono hB.size)
        generalize suR t = R at *
        generalize suM t = N at *
        generalize suZ t = Z at *
        generalize chE t = F at *
        clear hbest hmt hw hlist hS4 hl4 hSX hB4 HS HV0 HZ' D1 HBY hmo HZ HU hB hB0 H0 HL HN c1 hzl hzu hfr
        have hX : Below X.heap.size X X := Below.refl _ _
        have tk1 : True := trivial
        by_cases hM0 : M = 0
        · rw [if_pos hM0] at hch hi'
          subst hM0 hch hi'
          clear hin
          go_wp2_with (first
            | (go_at_call 14; have _t := tk1; refine (cC _ hX).mono ?_; rintro e w2 ⟨rfl, hb⟩; replace hX := Below.tr hX hb; have T := box4_new w2 (.int .i64 0) (.int .i64 R) (.int .i64 N) (.int .i64 Z) 23 rfl; replace hX := hX.alloc hX.size (.cells #[.int .i64 0, .int .i64 R, .int .i64 N, .int .i64 Z] 23); clear hb tk1)
            | (go_at_call 14; refine (cD _ hX).mono ?_; rintro e w3 ⟨rfl, hb⟩; replace hX := Below.tr hX hb; replace T := (T.below hb).alloc (.cells #[.int .i64 0, .int .i64 R, .int .i64 N, .int .i64 Z] 23); have U := box4_new w3 (.int .i64 0) (.int .i64 R) (.int .i64 N) (.int .i64 Z) 23 rfl; replace hX := hX.alloc hX.size (.cells #[.int .i64 0, .int .i64 R, .int .i64 N, .int .i64 Z] 23); clear hb)
            | (go_at_call 9; refine (c3 _).mono ?_; rintro e w4 ⟨rfl, hb⟩; replace hX := Below.tr hX hb; replace T := T.below hb; replace U := U.below hb; obtain ⟨⟨t0, t1, t2, t3⟩, -⟩ := id T; obtain ⟨⟨u0, u1, u2, u3⟩, -⟩ := id U; clear hb))
          go_ret
          exact ⟨ret_bool (by simp), hBX.trans (hX.mono hBX.size)⟩
        · rw [if_neg hM0] at hch hi'
          have hi6 := hin hM0
          have hM0' : (M == 0) = false := by simpa using hM0
          subst hch
          by_cases hki : k ≤ i
          · rw [if_pos hki] at hi'
            have hki' : (k : Int) ≤ i := by omega
            have HI : ((i : Int) + 1 == (i' : Int)) = true := by rw [hi', beq_iff_eq]; omega
            clear hin hi' hki
            go_wp2_with (first
              | (go_at_call 14; have _t := tk1; refine (cC _ hX).mono ?_; rintro e w2 ⟨rfl, hb⟩; replace hX := Below.tr hX hb; have T := box4_new w2 (.int .i64 M) (.int .i64 R) (.int .i64 N) (.int .i64 Z) 23 rfl; replace hX := hX.alloc hX.size (.cells #[.int .i64 M, .int .i64 R, .int .i64 N, .int .i64 Z] 23); clear hb tk1)
              | (go_at_call 14; refine (cD _ hX).mono ?_; rintro e w3 ⟨rfl, hb⟩; replace hX := Below.tr hX hb; replace T := (T.below hb).alloc (.cells #[.int .i64 M, .int .i64 R, .int .i64 N, .int .i64 Z] 23); have U := box4_new w3 (.int .i64 M) (.int .i64 R) (.int .i64 N) (.int .i64 Z) 23 rfl; replace hX := hX.alloc hX.size (.cells #[.int .i64 M, .int .i64 R, .int .i64 N, .int .i64 Z] 23); clear hb)
              | (go_at_call 9; refine (c3 _).mono ?_; rintro e w4 ⟨rfl, hb⟩; replace hX := Below.tr hX hb; replace T := T.below hb; replace U := U.below hb; obtain ⟨⟨t0, t1, t2, t3⟩, -⟩ := id T; obtain ⟨⟨u0, u1, u2, u3⟩, -⟩ := id U; clear hb))
            go_ret
            exact ⟨ret_bool (by simp), hBX.trans (hX.mono hBX.size)⟩
          · rw [if_neg hki] at hi'
            have hki' : ¬ (k : Int) ≤ i := by omega
            subst hi'
            clear hin hki
            go_wp2_with (first
              | (go_at_call 14; have _t := tk1; refine (cC _ hX).mono ?_; rintro e w2 ⟨rfl, hb⟩; replace hX := Below.tr hX hb; have T := box4_new w2 (.int .i64 M) (.int .i64 R) (.int .i64 N) (.int .i64 Z) 23 rfl; replace hX := hX.alloc hX.size (.cells #[.int .i64 M, .int .i64 R, .int .i64 N, .int .i64 Z] 23); clear hb tk1)
              | (go_at_call 14; refine (cD _ hX).mono ?_; rintro e w3 ⟨rfl, hb⟩; replace hX := Below.tr hX hb; replace T := (T.below hb).alloc (.cells #[.int .i64 M, .int .i64 R, .int .i64 N, .int .i64 Z] 23); have U := box4_new w3 (.int .i64 M) (.int .i64 R) (.int .i64 N) (.int .i64 Z) 23 rfl; replace hX := hX.alloc hX.size (.cells #[.int .i64 M, .int .i64 R, .int .i64 N, .int .i64 Z] 23); clear hb)
              | (go_at_call 9; refine (c3 _).mono ?_; rintro e w4 ⟨rfl, hb⟩; replace hX := Below.tr hX hb; replace T := T.below hb; replace U := U.below hb; obtain ⟨⟨t0, t1, t2, t3⟩, -⟩ := id T; obtain ⟨⟨u0, u1, u2, u3⟩, -⟩ := id U; clear hb))
            go_ret
            exact ⟨ret_bool (by simp), hBX.trans (hX.mono hBX.size)⟩

theorem superChooses_walk (a : Option Addr) (c : Nat) (us : List Sup) (q : ByteArray) (z : Int) (w : World) (hU : IsU w a c us) (hq : q.size ≤ maxLen) (wz : (Lit.int .i64 z).wf = true) :
    Calls Try.prog 6 #[.slice a us.length c, .string q, .int .i64 z] w fun e w' => e = .returned (.bool true) ∧ Below w.heap.size w w' := by
  have hz : -9223372036854775808 ≤ z ∧ z ≤ 9223372036854775807 := by simpa [Lit.wf, IntKind.min, IntKind.max, IntKind.signed, IntKind.bits] using wz
  by_cases h0 : suE q = 0
  · exact superChooses_junk a c us.length q z w hq h0
  · exact superChooses_rest a c us q z w hU hq hz h0

end Go.Proofs.Ytpjbikofomhcdaa
