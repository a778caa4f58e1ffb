/-
  The walk through the statement LookWhole.
-/
import Derived.Test.YtmldemgciidpbaaBdE
namespace Go.Proofs.Ytmldemgciidpbaa
open Go.RowKit Plain
set_option linter.unusedVariables false

theorem grown_same (w : World) (r : Option Nat) : w.grownBy w r := ⟨rfl, rfl, rfl, Nat.le_refl _, fun _ _ _ => rfl⟩

theorem isQ_of_none {w : World} {c : Nat} {l : List (ByteArray × ByteArray)} (h : IsQ w none c l) : l = [] := by
  rcases Nat.eq_zero_or_pos l.length with h0 | h0
  · exact List.length_eq_zero_iff.1 h0
  · obtain ⟨b, o, hh, _⟩ := h.2.2 0 l[0] (List.getElem?_eq_getElem h0)
    cases hh

theorem append_none (base ts e : TypeId) (i : TypeInfo) (size m c : Nat) (hm : m = 0) (ht : Try.prog.underlying ts = some (.slice e)) (hi : Try.prog.info? e = some i) (W : World) (v : Value) (n : Nat) (xs : List Value) (hown : W.ownsRow base e size v n xs) :
    (Builtin.append_ #[ts, ts] ts #[v, .slice none m c]).run Try.prog W = .ok v W := by
  subst hm
  rcases hown.2 with ⟨rfl, rfl⟩ | ⟨g, cap, cur, rfl, _, _, hnc, _⟩
  · simp [Builtin.append_, run_underlying ht, sizeOf, typeInfo, hi, Builtin.lenOf, Builtin.firstCells]
  · simp [Builtin.append_, run_underlying ht, sizeOf, typeInfo, hi, Builtin.lenOf, Builtin.firstCells, hnc, storeCells]

theorem rising_at {P : List (ByteArray × ByteArray)} (h : Rising P) {i j : Nat} {x y : ByteArray × ByteArray} (hx : P[i]? = some x) (hy : P[j]? = some y) (hij : i < j) : ltB x.1 y.1 = true := by
  obtain ⟨a1, rfl⟩ := List.getElem?_eq_some_iff.1 hx
  obtain ⟨a2, rfl⟩ := List.getElem?_eq_some_iff.1 hy
  exact List.pairwise_iff_getElem.1 h i j a1 a2 hij

/-- A row of pairs put behind a row of the call's own. -/
theorem append_Q (Wd : World) (base : Nat) (v : Value) (n : Nat) (l : List (ByteArray × ByteArray)) (hown : Wd.ownsRow base 55 2 v n (cellsQ l)) (hb : base ≤ Wd.heap.size) (a : Option Addr) (c m : Nat) (ys : List (ByteArray × ByteArray)) (hm : m = ys.length) (hY : IsQ Wd a c ys) (hn : n + m ≤ 100000) :
    ∃ v' w', (Builtin.append_ #[44, 44] 44 #[v, .slice a m c]).run Try.prog Wd = .ok v' w' ∧
      w'.ownsRow base 55 2 v' (n + m) (cellsQ (l ++ ys)) ∧ Wd.grownBy w' v.ownBlock := by
  obtain ⟨i0, hi, hz0, hz1, hz2⟩ := info_parts Try.info55
  cases a with
  | none =>
    have h0 := isQ_of_none hY
    subst h0
    have hm0 : m = 0 := hm
    refine ⟨v, Wd, append_none base _ _ i0 2 m c hm0 Try.underlying44 hi _ _ _ _ hown, ?_, grown_same _ _⟩
    rw [hm0, List.append_nil]; exact hown
  | some ad =>
    obtain ⟨v', w', hr, h2, h3, h4, h5⟩ := run_append_own_at (P := Try.prog) Wd base 44 44 55 i0 _ 2 32 Try.underlying44 hi hz0 hz1 hz2 rfl (by decide) v n (cellsQ l) hown ad m c (cellsQ ys) (by rw [cellsQ_length, hm])
      (by
        intro j u hj
        obtain ⟨i, p, hp, hh⟩ := cellsQ_get hj
        obtain ⟨b, o, he, _, hc, hc2, _⟩ := hY.2.2 i p hp
        cases he
        rcases hh with ⟨rfl, rfl⟩ | ⟨rfl, rfl⟩
        · rw [at_add]; exact hc
        · rw [at_add]; exact hc2)
      (cellsQ_one ys) (by unfold maxLen; omega) (by omega) hb
    exact ⟨v', w', hr, by rw [cellsQ_append]; exact h2, h3⟩


set_option maxRecDepth 20000 in
set_option maxHeartbeats 8000000 in
theorem lookWhole_walk (a : Option Addr) (c : Nat) (bs : List Bool) (a' : Option Addr) (c' : Nat) (ns : List Bool) (b : Option Addr) (f : Nat) (ps : List ByteArray) (root gen : Int) (si : Int) (w : World) (hB : IsB w a c bs) (hB' : IsB w a' c' ns) (hP : IsS w b f ps) (_h1 : (Lit.int .i64 root).wf = true) (_h2 : (Lit.int .i64 gen).wf = true) (_h3 : (Lit.int .i64 si).wf = true) :
    Calls Try.prog 6 #[.agg #[.slice a bs.length c, .slice a' ns.length c', .slice b ps.length f, .int .i64 root, .int .i64 gen], .int .i64 si] w fun e w' => e = .returned (.bool true) ∧ Below w.heap.size w w' := by
  obtain ⟨n, hn⟩ : ∃ n, n = bs.length := ⟨_, rfl⟩
  obtain ⟨n', hn'⟩ : ∃ n, n = ns.length := ⟨_, rfl⟩
  obtain ⟨p, hp⟩ : ∃ n, n = ps.length := ⟨_, rfl⟩
  rw [← hn, ← hn', ← hp]
  obtain ⟨W, hW⟩ : ∃ W, W = w.alloc (.cells #[.slice a n c, .slice a' n' c', .slice b p f, .int .i64 root, .int .i64 gen] 27) := ⟨_, rfl⟩
  have HB : Below w.heap.size w W := by rw [hW]; exact (Below.refl _ _).alloc (Nat.le_refl _) _
  have WI : WoodIn W w.heap.size a n c a' n' c' b p f bs ns ps root gen := ⟨by rw [hW]; exact woodBox_new _ _ _ _ _ _ _ rfl, hn, hn', hp, hB.below HB, hB'.below HB, hP.below HB⟩
  have hns : Hid (n' = ns.length) := hn'
  clear hn hn' hp hB hB' hP _h1 _h2 _h3
  obtain ⟨x0, x1, x2, x3, x4⟩ := id (hW ▸ WI.1)
  cases hs : (decide (n' ≤ 300) && decide (p ≤ 300)) with
  | false =>
    go_enter Try.func6, Try.ntmps6
    go_wp2_with (first
      | (go_at_call 8; rw [← hW]; refine (small_in WI).mono ?_; rintro y w1 ⟨rfl, hb⟩; rw [hs]; replace WI := WI.below hb; replace HB := Below.tr HB hb; clear x0 x1 x2 x3 x4; obtain ⟨x0, x1, x2, x3, x4⟩ := id WI.1; clear hb)
      | (go_at_call 9; refine (alive08_any _).mono ?_; rintro y w5 ⟨rfl, hb⟩; replace HB := Below.tr HB hb; clear hb)
      )
    go_ret
    exact ⟨rfl, HB⟩

  | true =>
    have h300 : Hid (n' ≤ 300) := by simp at hs; exact hs.1
    obtain ⟨r, hR⟩ : ∃ r, Hid (rightW bs ns ps root gen = r) := ⟨_, rfl⟩
    obtain ⟨t, hPt⟩ : ∃ t, Hid (t = treeS ns ps root gen) := ⟨_, rfl⟩
    cases r with
    | false =>
      go_enter Try.func6, Try.ntmps6
      go_wp2_with (first
        | (go_at_call 8; rw [← hW]; refine (small_in WI).mono ?_; rintro y w1 ⟨rfl, hb⟩; rw [hs]; replace WI := WI.below hb; replace HB := Below.tr HB hb; clear x0 x1 x2 x3 x4; obtain ⟨x0, x1, x2, x3, x4⟩ := id WI.1; clear hb)
        | (go_at_call 11; refine (right_in WI).mono ?_; rintro y w3 ⟨rfl, hb⟩; rw [hR.out]; replace WI := WI.below hb; replace HB := Below.tr HB hb; clear x0 x1 x2 x3 x4; obtain ⟨x0, x1, x2, x3, x4⟩ := id WI.1; clear hb)
        | (go_at_call 9; refine (alive08_any _).mono ?_; rintro y w5 ⟨rfl, hb⟩; replace HB := Below.tr HB hb; clear hb)
        )
      go_ret
      exact ⟨rfl, HB⟩

    | true =>
      cases hbad : t.bad with
      | true =>
        go_enter Try.func6, Try.ntmps6
        go_wp2_with (first
          | (go_at_call 8; rw [← hW]; refine (small_in WI).mono ?_; rintro y w1 ⟨rfl, hb⟩; rw [hs]; replace WI := WI.below hb; replace HB := Below.tr HB hb; clear x0 x1 x2 x3 x4; obtain ⟨x0, x1, x2, x3, x4⟩ := id WI.1; clear hb)
          | (go_at_call 11; refine (right_in WI).mono ?_; rintro y w3 ⟨rfl, hb⟩; rw [hR.out]; replace WI := WI.below hb; replace HB := Below.tr HB hb; clear x0 x1 x2 x3 x4; obtain ⟨x0, x1, x2, x3, x4⟩ := id WI.1; clear hb)
          | (go_at_call 16; refine (tree_in WI).mono ?_; rintro y w4 ⟨tq, td, tu, rfl, TB, hTQ, hb⟩; rw [← hPt.out, hbad] at TB; clear hTQ; replace WI := WI.below hb; replace HB := Below.tr HB hb; clear x0 x1 x2 x3 x4; obtain ⟨x0, x1, x2, x3, x4⟩ := id WI.1; clear hb; obtain ⟨⟨q0, q1, q2, q3⟩, -⟩ := TB)
          | (go_at_call 9; refine (alive08_any _).mono ?_; rintro y w5 ⟨rfl, hb⟩; replace HB := Below.tr HB hb; clear hb)
          )
        go_ret
        exact ⟨rfl, HB⟩

      | false =>
        have hB0 : Hid ((treeS ns ps root gen).bad = false) := by show _ = _; rw [← hPt.out]; exact hbad
        obtain ⟨P, HPP⟩ : ∃ P, Hid (P = (treeS ns ps root gen).pairs) := ⟨_, rfl⟩
        obtain ⟨hris, hkin⟩ := tree_facts hB0.out
        have hfew := tree_few (ns := ns) (ps := ps) (root := root) (gen := gen) (by rw [← hns.out]; exact h300.out)
        rw [← HPP.out] at hris hkin hfew
        have HPS : Hid (∀ q ∈ P, q.1.size ≤ maxLen ∧ q.2.size ≤ maxLen) := by show ∀ q ∈ P, _; rw [HPP.out]; exact tree_sized
        have HRI : Hid (Rising P ∧ (∀ q ∈ P, keyIn q.1) ∧ P.length ≤ 2700) := ⟨hris, hkin, hfew⟩
        obtain ⟨m, hm1⟩ : ∃ m : Nat, min (max si 1) 256 = (m : Int) := ⟨(min (max si 1) 256).toNat, by omega⟩
        have HM : Hid (1 ≤ m ∧ m ≤ 256) := ⟨by omega, by omega⟩
        have mx1 := max_run (x := si) (y := 1) (z := max si 1) rfl
        have mn1 := min_run (x := max si 1) (y := 256) (z := (m : Int)) hm1
        obtain ⟨X1, hX1⟩ : ∃ x, x = max si 1 := ⟨_, rfl⟩
        rw [← hX1] at mx1 mn1
        clear hX1 hm1 hris hkin hfew
        go_enter Try.func6, Try.ntmps6
        go_wp2_with (first
          | (go_at_call 8; rw [← hW]; refine (small_in WI).mono ?_; rintro y w1 ⟨rfl, hb⟩; rw [hs]; replace WI := WI.below hb; replace HB := Below.tr HB hb; clear x0 x1 x2 x3 x4; obtain ⟨x0, x1, x2, x3, x4⟩ := id WI.1; clear hb)
          | (go_at_call 11; refine (right_in WI).mono ?_; rintro y w3 ⟨rfl, hb⟩; rw [hR.out]; replace WI := WI.below hb; replace HB := Below.tr HB hb; clear x0 x1 x2 x3 x4; obtain ⟨x0, x1, x2, x3, x4⟩ := id WI.1; clear hb)
          | (go_at_call 16; refine (tree_in WI).mono ?_; rintro y w4 ⟨tq, td, tu, rfl, TB, hTQ, hb⟩; rw [← hPt.out, hbad] at TB; clear hTQ; replace WI := WI.below hb; replace HB := Below.tr HB hb; clear x0 x1 x2 x3 x4; obtain ⟨x0, x1, x2, x3, x4⟩ := id WI.1; clear hb; obtain ⟨⟨q0, q1, q2, q3⟩, -⟩ := TB)
          )

        have hwb : Hid (w.heap.size < w4.heap.size) := cell_lt WI.1.1
        have HWI0 : Hid (WoodIn w4 w.heap.size a n c a' n' c' b p f bs ns ps root gen) := WI
        go_loopw [5, 6, 35] (fun u v6 v35 wr => ∃ (j r : Nat) (lo : ByteArray), j ≤ 3000 ∧ v35 = .int .i64 j ∧ v6 = .string lo ∧ (fromP P lo = P.drop r ∧ lo.size ≤ 32 ∧ r = j * m ∧ (j = 0 ∨ r < P.length)) ∧ wr.ownsRow w4.heap.size 55 2 u (P.take r).length (cellsQ (P.take r)) ∧ WoodIn wr w.heap.size a n c a' n' c' b p f bs ns ps root gen ∧ Below w4.heap.size w4 wr) (fun _ _ v _ => 3000 - (intOf v).toNat)
        case atStart => exact ⟨0, 0, ⟨#[]⟩, by omega, rfl, rfl, ⟨by rw [from_all]; rfl, by decide, by omega, .inl rfl⟩, ⟨rfl, .inl ⟨rfl, rfl⟩⟩, WI, Below.refl _ _⟩
        case round =>
          obtain ⟨j, r, lo, hj, rfl, rfl, hinv, OW, WI2, HB2⟩ := hrel
          have HI : Hid (fromP P lo = P.drop r ∧ lo.size ≤ 32 ∧ r = j * m ∧ (j = 0 ∨ r < P.length)) := hinv
          clear hinv x0 x1 x2 x3 x4 WI
          have WI := WI2
          clear WI2
          obtain ⟨x0, x1, x2, x3, x4⟩ := id WI.1
          have hj3 : (j : Int) < 3000 := by
            have h1 := HI.out
            have h2 := HM.out
            have h3 := HRI.out.2.2
            rcases h1.2.2.2 with e | e
            · omega
            · have : j ≤ j * m := Nat.le_mul_of_pos_right j (by omega)
              omega
          obtain ⟨uq, ud, hu5⟩ : ∃ q d, u5 = .slice q (P.take r).length d := by
            rcases OW.2 with ⟨h1, h2⟩ | ⟨g, cap, cur, h1, _⟩
            · exact ⟨none, 0, by rw [h1, h2]⟩
            · exact ⟨_, _, h1⟩
          obtain ⟨K, HK⟩ : ∃ K, Hid (K = (P.take r).length) := ⟨_, rfl⟩
          rw [← HK.out] at hu5 OW
          subst hu5
          have OWH : Hid (wr.ownsRow w4.heap.size 55 2 (.slice uq K ud) K (cellsQ (P.take r))) := OW
          obtain ⟨LL, hLL⟩ : ∃ LL, LL = (P.drop r).take m := ⟨_, rfl⟩
          obtain ⟨nx, hnx⟩ : ∃ nx, nx = ((P[r + m]?).map (·.1)).getD ⟨#[]⟩ := ⟨_, rfl⟩
          obtain ⟨hsp1, hsp2, hsp3⟩ := scan_piece HRI.out.1 HI.out.1 m
          have HS : Hid (scanL P lo m = LL ∧ scanK P lo m = nx) := ⟨by rw [hsp1, hLL], by rw [hsp2, hnx]⟩
          have HLm : Hid (LL.length ≤ m) := by show _ ≤ _; rw [hLL, List.length_take]; omega
          have HTT : Hid (P.take (r + m) = P.take r ++ LL) := by show _ = _; rw [hLL, List.take_add]
          have HSP : Hid (∀ q, P[r + m]? = some q → fromP P q.1 = P.drop (r + m)) := hsp3
          have HW0 : Hid (WoodIn w4 w.heap.size a n c a' n' c' b p f bs ns ps root gen) := HWI0
          have mK : K ≤ 9223372036854775807 := by rw [HK.out, List.length_take]; have := HRI.out.2.2; omega
          clear OW hsp1 hsp2 hsp3 q0 q1 q2 q3
          by_cases hgo : r + m < P.length
          · obtain ⟨⟨kx, kv⟩, hkx⟩ : ∃ x, P[r + m]? = some x := ⟨_, List.getElem?_eq_getElem hgo⟩
            have hkk := HRI.out.2.1 _ (List.mem_of_getElem? hkx)
            have hnxx : nx = kx := by rw [hnx, hkx]; rfl
            have hk1 : 1 ≤ kx.size := hkk.1
            have hnf := str_full (s := nx) (by rw [hnxx]; omega)
            have HGO : Hid (fromP P nx = P.drop (r + m) ∧ nx.size ≤ 32 ∧ r + m = (j + 1) * m ∧ (j + 1 = 0 ∨ r + m < P.length)) := ⟨by rw [hnxx]; exact HSP.out _ hkx, by rw [hnxx]; exact hkk.2, by rw [Nat.succ_mul, HI.out.2.2.1], .inr hgo⟩
            clear hgo hkx hkk hnxx hnx hLL hk1
            go_wp2_with (first
              | (go_at_call 18; refine (scan_tree WI hR.out hB0.out HPP.out lo m HI.out.2.1 HM.out.2).mono ?_; rintro y w6 ⟨q, N, d, rfl, hN, hQ, -, hb⟩; rw [HS.out.2]; rw [HS.out.1] at hN hQ; have EN : Hid (N = LL.length) := hN; have EQ : Hid (IsQ w6 q d LL) := hQ; have h6 : Hid (Below wr.heap.size wr w6) := hb; have mN : N ≤ 9223372036854775807 := (by rw [EN.out]; exact Nat.le_trans EQ.out.1 EQ.out.2.1); have hNm : ¬ (m : Int) < N := (by have h1 := EN.out; have h2 := HLm.out; omega); clear hN hQ hb x0 x1 x2 x3 x4 WI)
              | (at_builtin; obtain ⟨v', w7, hrun, hown, hgr⟩ := append_Q w6 w4.heap.size (.slice uq K ud) K (P.take r) ((Turns.of_below (P := fun _ => False) h6.out).owns OWH.out (fun _ _ x => x)) (by have h1 := HB2.size; have h2 := h6.out.size; omega) q d N LL EN.out EQ.out (by have h1 := HLm.out; have h2 := EN.out; have h3 := HK.out; have h4 := HRI.out.2.2; have h5 := HM.out; rw [List.length_take] at h3; omega); refine Lib.wpList_append_run _ rfl _ _ _ _ rfl _ _ rfl rfl _ _ hrun ?_; have HW : Hid (w7.ownsRow w4.heap.size 55 2 v' (P.take (r + m)).length (cellsQ (P.take (r + m)))) := (by show World.ownsRow _ _ _ _ _ _ _; rw [HTT.out, List.length_append, ← HK.out, ← EN.out]; exact hown); have H7 : Below w4.heap.size w4 w7 := Below.turns (Below.tr HB2 h6.out) ((Turns.refl _ _).grown hgr (fun k hk => hk)) (fun k hk => (OWH.out.lt k hk).1); clear hrun hown hgr))
            go_roundw
            case rel => exact ⟨j + 1, r + m, nx, by omega, by go_num, rfl, HGO.out, HW.out, HW0.out.below H7, H7⟩
            case measure => simp [intOf]; omega
          · have hnx0 : nx = ⟨#[]⟩ := by rw [hnx, List.getElem?_eq_none (by omega)]; rfl
            subst hnx0
            have HPT : Hid (P.take (r + m) = P) := List.take_of_length_le (by omega)
            have HZ : Hid (LL.length = 0 → K = 0) := by
              intro h0
              rw [hLL, List.length_take, List.length_drop] at h0
              have h2 := HM.out
              rcases HI.out.2.2.2 with e | e
              · rw [HK.out, HI.out.2.2.1, e]; simp
              · omega
            clear hgo hnx hLL
            obtain ⟨PL, HPL⟩ : ∃ k, Hid (k = P.length) := ⟨_, rfl⟩
            have mPL : PL ≤ 9223372036854775807 := by rw [HPL.out]; have := HRI.out.2.2; omega
            by_cases hL0 : LL.length = 0
            · have hK0 : (0 < K) = False := eq_false (by have := HZ.out hL0; omega)
              have hK0i : ((0 : Int) < (K : Int)) = False := eq_false (by have := HZ.out hL0; omega)
              have HL0 : Hid (LL.length = 0) := hL0
              clear HZ hL0
              go_wp2_with (first
                | (go_at_call 18; refine (scan_tree WI hR.out hB0.out HPP.out lo m HI.out.2.1 HM.out.2).mono ?_; rintro y w6 ⟨q, N, d, rfl, hN, hQ, -, hb⟩; rw [HS.out.2]; rw [HS.out.1] at hN hQ; have EN : Hid (N = LL.length) := hN; have EQ : Hid (IsQ w6 q d LL) := hQ; have h6 : Hid (Below wr.heap.size wr w6) := hb; have mN : N ≤ 9223372036854775807 := (by rw [EN.out]; exact Nat.le_trans EQ.out.1 EQ.out.2.1); have hNm : ¬ (m : Int) < N := (by have h1 := EN.out; have h2 := HLm.out; omega); have hNz : ((N : Int) == 0) = true := (by have h1 := EN.out; have h2 := HL0.out; simp; omega); clear hN hQ hb x0 x1 x2 x3 x4 WI)
                | (at_builtin; obtain ⟨v', w7, hrun, hown, hgr⟩ := append_Q w6 w4.heap.size (.slice uq K ud) K (P.take r) ((Turns.of_below (P := fun _ => False) h6.out).owns OWH.out (fun _ _ x => x)) (by have h1 := HB2.size; have h2 := h6.out.size; omega) q d N LL EN.out EQ.out (by have h1 := HLm.out; have h2 := EN.out; have h3 := HK.out; have h4 := HRI.out.2.2; have h5 := HM.out; rw [List.length_take] at h3; omega); have hown2 : w7.ownsRow w4.heap.size 55 2 v' P.length (cellsQ P) := (by have e : P.take r ++ LL = P := HTT.out.symm.trans HPT.out; have e2 : K + N = P.length := (by have h1 := congrArg List.length e; rw [List.length_append] at h1; have h2 := HK.out; have h3 := EN.out; omega); rw [e, e2] at hown; exact hown); obtain ⟨q7, d7, hv7, hQ7, -⟩ := owned_isQ hown2 rfl HPS.out; rw [← HPL.out] at hv7; subst hv7; refine Lib.wpList_append_run _ rfl _ _ _ _ rfl _ _ rfl rfl _ _ hrun ?_; have EQ7 : Hid (IsQ w7 q7 d7 P) := hQ7; clear hown2 hQ7; have H7 : Below w4.heap.size w4 w7 := Below.turns (Below.tr HB2 h6.out) ((Turns.refl _ _).grown hgr (fun k hk => hk)) (fun k hk => (OWH.out.lt k hk).1); clear hrun hown hgr))
              clear EN EQ h6 hNz HTT HSP HS HLm OWH HK HI
              go_loopw [76] (fun v wr => ∃ i : Nat, i ≤ PL ∧ v = .int .i64 i ∧ Below w7.heap.size w7 wr) (fun v _ => PL - (intOf v).toNat)
              case atStart => exact ⟨0, by omega, rfl, Below.refl _ _⟩
              case round =>
                obtain ⟨i, hi, rfl, HR⟩ := hrel
                have H7r := Below.tr H7 HR
                have WI := HW0.out.below H7r
                obtain ⟨x0, x1, x2, x3, x4⟩ := id WI.1
                by_cases hlt : i < PL
                · have hlt' : (i : Int) < PL := by omega
                  obtain ⟨⟨kx, kv⟩, hx⟩ : ∃ x, Hid (P[i]? = some x) := get_some (by rw [← HPL.out]; exact hlt)
                  obtain ⟨b1, o1, rfl, -, hc0, hc1, -, -⟩ := EQ7.out.2.2 i (kx, kv) hx.out
                  have z0 := cell_below HR hc0
                  have z1 := cell_below HR hc1
                  have hkn : 1 ≤ kx.size ∧ kx.size ≤ 32 := HRI.out.2.1 _ (List.mem_of_getElem? hx.out)
                  have hget : getP P kx = (kv, 0) := get_at_ HRI.out.1 hx.out
                  have cG : ∀ U, WoodIn U w.heap.size a n c a' n' c' b p f bs ns ps root gen → Calls Try.prog 15 #[.agg #[.slice a n c, .slice a' n' c', .slice b p f, .int .i64 root, .int .i64 gen], .string kx] U fun x w' => x = .returned (.tuple #[.string kv, .int .i64 0]) ∧ Below U.heap.size U w' := fun U hU => by have := get_tree hU hR.out hB0.out HPP.out kx hkn.1 hkn.2; rw [hget] at this; exact this
                  have CG0 : Hid (kx.size < 32 → (∀ q, P[i + 1]? = some q → q.1 ≠ kx ++ ⟨#[0]⟩) → ∀ U, WoodIn U w.heap.size a n c a' n' c' b p f bs ns ps root gen → Calls Try.prog 15 #[.agg #[.slice a n c, .slice a' n' c', .slice b p f, .int .i64 root, .int .i64 gen], .string (kx ++ ⟨#[0]⟩)] U fun x w' => x = .returned (.tuple #[.string ⟨#[]⟩, .int .i64 80]) ∧ Below U.heap.size U w') := fun h32 hnn U hU => by
                    have hsz : (kx ++ ⟨#[0]⟩ : ByteArray).size = kx.size + 1 := by rw [ByteArray.size_append]; rfl
                    have := get_tree hU hR.out hB0.out HPP.out (kx ++ ⟨#[0]⟩) (by omega) (by omega)
                    rw [getP_none (zero_miss HRI.out.1 hx.out hnn)] at this
                    exact this
                  have HA : Below w7.heap.size w7 (wr.alloc (.cells #[.string kx, .string kv] 55)) := HR.alloc HR.size _
                  have WIA : Hid (WoodIn (wr.alloc (.cells #[.string kx, .string kv] 55)) w.heap.size a n c a' n' c' b p f bs ns ps root gen) := WI.below ((Below.refl _ _).alloc (Nat.le_refl _) _)
                  have PB : Hid ((wr.alloc (.cells #[.string kx, .string kv] 55)).cell? ⟨wr.heap.size, 0, none⟩ = some (.string kx) ∧ (wr.alloc (.cells #[.string kx, .string kv] 55)).cell? ⟨wr.heap.size, 1, none⟩ = some (.string kv)) := ⟨World.cell?_alloc_at _ _ _ _ rfl, World.cell?_alloc_at _ _ _ _ rfl⟩
                  obtain ⟨xa0, xa1, xa2, xa3, xa4⟩ := id WIA.out.1
                  have tk1 : True := trivial
                  have tk2 : True := trivial
                  clear hc0 hc1 hget
                  by_cases h0 : i = 0
                  · have h0' : (0 < i) = False := eq_false (by omega)
                    have h0i : ((0 : Int) < (i : Int)) = False := eq_false (by omega)
                    clear h0
                    by_cases hk32 : kx.size < 32
                    · have hk32' : (kx.size : Int) < 32 := by omega
                      have hsum : ¬ 9223372036854775807 < kx.size + 1 := by omega
                      by_cases hla : i + 1 = PL
                      · have hla' : (((i : Int) + 1) == (PL : Int)) = true := by simp; omega
                        have cG0 := CG0.out (by omega) (fun q hq => by rw [List.getElem?_eq_none (by have := HPL.out; omega)] at hq; cases hq)
                        clear CG0 hla hk32
                        go_wp2_with (first
                          | (go_at_call 15; have _t := tk1; clear _t tk1; refine (cG _ WIA.out).mono ?_; rintro y w8 ⟨rfl, hb⟩; have pb0 := cell_below hb PB.out.1; have pb1 := cell_below hb PB.out.2; replace HA := Below.tr HA hb; have WI8 := WIA.out.below hb; clear x0 x1 x2 x3 x4 xa0 xa1 xa2 xa3 xa4 z0 z1 WI; obtain ⟨x0, x1, x2, x3, x4⟩ := id WI8.1; clear hb))
                        go_region
                        go_wp2
                        go_region
                        go_wp2_with (go_at_call 15; have _t := tk2; clear _t tk2; refine (cG0 _ (WI8.below ((Below.refl _ _).drew.drew))).mono ?_; rintro y w9 ⟨rfl, hb⟩; replace HA := Below.tr HA.drew.drew hb; clear hb)
                        go_roundw
                        case rel => first | exact ⟨i + 1, by omega, by go_num, HA⟩ | ((repeat apply Exists.intro); exact ⟨⟨i + 1, by omega, by go_num, HA⟩, rfl⟩)
                        case measure => first | (simp [intOf]; omega) | omega
                      · have hla' : (((i : Int) + 1) == (PL : Int)) = false := by simp; omega
                        have hln : (i : Int) + 1 < PL := by omega
                        obtain ⟨⟨kz, ku⟩, hz⟩ : ∃ x, Hid (P[i + 1]? = some x) := get_some (by rw [← HPL.out]; omega)
                        obtain ⟨b3, o3, heq3, -, hf0, -, -, -⟩ := EQ7.out.2.2 (i + 1) (kz, ku) hz.out
                        cases heq3
                        have ZA : Hid ((wr.alloc (.cells #[.string kx, .string kv] 55)).cell? ⟨b1, o1 + (i + 1) * 2, none⟩ = some (.string kz)) := cell_alloc (cell_below HR hf0) _
                        clear hf0
                        by_cases hzx : kz = kx ++ ⟨#[0]⟩
                        · have hzx' : (kz.toList == (kx ++ ⟨#[0]⟩ : ByteArray).toList) = true := str_eq_true hzx
                          clear CG0 hla hk32 hzx
                          go_wp2_with (first
                            | (go_at_call 15; have _t := tk1; clear _t tk1; refine (cG _ WIA.out).mono ?_; rintro y w8 ⟨rfl, hb⟩; have pb0 := cell_below hb PB.out.1; have pb1 := cell_below hb PB.out.2; replace HA := Below.tr HA hb; have WI8 := WIA.out.below hb; have zn := cell_below hb ZA.out; clear x0 x1 x2 x3 x4 xa0 xa1 xa2 xa3 xa4 z0 z1 WI; obtain ⟨x0, x1, x2, x3, x4⟩ := id WI8.1; clear hb))
                          go_region
                          go_wp2
                          go_region
                          go_wp2
                          go_roundw
                          case rel => first | exact ⟨i + 1, by omega, by go_num, HA.drew.drew⟩ | ((repeat apply Exists.intro); exact ⟨⟨i + 1, by omega, by go_num, HA.drew.drew⟩, rfl⟩)
                          case measure => first | (simp [intOf]; omega) | omega
                        · have hzx' : (kz.toList == (kx ++ ⟨#[0]⟩ : ByteArray).toList) = false := str_eq_false hzx
                          have cG0 := CG0.out (by omega) (fun q hq => by rw [hz.out] at hq; cases hq; exact hzx)
                          clear CG0 hla hk32 hzx
                          go_wp2_with (first
                            | (go_at_call 15; have _t := tk1; clear _t tk1; refine (cG _ WIA.out).mono ?_; rintro y w8 ⟨rfl, hb⟩; have pb0 := cell_below hb PB.out.1; have pb1 := cell_below hb PB.out.2; replace HA := Below.tr HA hb; have WI8 := WIA.out.below hb; have zn := cell_below hb ZA.out; clear x0 x1 x2 x3 x4 xa0 xa1 xa2 xa3 xa4 z0 z1 WI; obtain ⟨x0, x1, x2, x3, x4⟩ := id WI8.1; clear hb))
                          go_region
                          go_wp2
                          go_region
                          go_wp2_with (go_at_call 15; have _t := tk2; clear _t tk2; refine (cG0 _ (WI8.below ((Below.refl _ _).drew.drew))).mono ?_; rintro y w9 ⟨rfl, hb⟩; replace HA := Below.tr HA.drew.drew hb; clear hb)
                          go_roundw
                          case rel => first | exact ⟨i + 1, by omega, by go_num, HA⟩ | ((repeat apply Exists.intro); exact ⟨⟨i + 1, by omega, by go_num, HA⟩, rfl⟩)
                          case measure => first | (simp [intOf]; omega) | omega
                    · have hk32' : ((kx.size : Int) < 32) = False := eq_false (by omega)
                      clear CG0 hk32
                      go_wp2_with (first
                        | (go_at_call 15; have _t := tk1; clear _t tk1; refine (cG _ WIA.out).mono ?_; rintro y w8 ⟨rfl, hb⟩; have pb0 := cell_below hb PB.out.1; have pb1 := cell_below hb PB.out.2; replace HA := Below.tr HA hb; have WI8 := WIA.out.below hb; clear x0 x1 x2 x3 x4 xa0 xa1 xa2 xa3 xa4 z0 z1 WI; obtain ⟨x0, x1, x2, x3, x4⟩ := id WI8.1; clear hb))
                      go_region
                      go_wp2
                      go_region
                      go_wp2
                      go_roundw
                      case rel => first | exact ⟨i + 1, by omega, by go_num, HA.drew.drew⟩ | ((repeat apply Exists.intro); exact ⟨⟨i + 1, by omega, by go_num, HA.drew.drew⟩, rfl⟩)
                      case measure => first | (simp [intOf]; omega) | omega
                  · have h0' : (0 < i) = True := eq_true (by omega)
                    have h0i : ((0 : Int) < (i : Int)) = True := eq_true (by omega)
                    obtain ⟨jm, hjm⟩ : ∃ k : Nat, (i : Int) - 1 = k := ⟨i - 1, by omega⟩
                    obtain ⟨⟨ky, kw⟩, hy⟩ : ∃ x, Hid (P[jm]? = some x) := get_some (by rw [← HPL.out]; omega)
                    obtain ⟨b2, o2, heq, -, hd0, -, -, -⟩ := EQ7.out.2.2 jm (ky, kw) hy.out
                    cases heq
                    have YA : Hid ((wr.alloc (.cells #[.string kx, .string kv] 55)).cell? ⟨b1, o1 + jm * 2, none⟩ = some (.string ky)) := cell_alloc (cell_below HR hd0) _
                    have hjm' : (jm : Int) < PL := by omega
                    have hlt3 : Op.bytesLess ky.toList kx.toList = true := rising_at HRI.out.1 hy.out hx.out (by omega)
                    have hge2 : Op.bytesLess kx.toList ky.toList = false := ltB_asymm (a := ky) (b := kx) hlt3
                    have hne2 : (ky.toList == kx.toList) = false := str_eq_false (fun e => by rw [e] at hlt3; exact Bool.noConfusion (hlt3.symm.trans (ltB_irrefl kx)))
                    clear hd0 h0
                    by_cases hk32 : kx.size < 32
                    · have hk32' : (kx.size : Int) < 32 := by omega
                      have hsum : ¬ 9223372036854775807 < kx.size + 1 := by omega
                      by_cases hla : i + 1 = PL
                      · have hla' : (((i : Int) + 1) == (PL : Int)) = true := by simp; omega
                        have cG0 := CG0.out (by omega) (fun q hq => by rw [List.getElem?_eq_none (by have := HPL.out; omega)] at hq; cases hq)
                        clear CG0 hla hk32
                        go_wp2_with (first
                          | (go_at_call 15; have _t := tk1; clear _t tk1; refine (cG _ WIA.out).mono ?_; rintro y w8 ⟨rfl, hb⟩; have pb0 := cell_below hb PB.out.1; have pb1 := cell_below hb PB.out.2; replace HA := Below.tr HA hb; have WI8 := WIA.out.below hb; have y0 := cell_below hb YA.out; clear x0 x1 x2 x3 x4 xa0 xa1 xa2 xa3 xa4 z0 z1 WI; obtain ⟨x0, x1, x2, x3, x4⟩ := id WI8.1; clear hb))
                        go_region
                        go_wp2
                        go_region
                        go_wp2_with (go_at_call 15; have _t := tk2; clear _t tk2; refine (cG0 _ (WI8.below ((Below.refl _ _).drew.drew))).mono ?_; rintro y w9 ⟨rfl, hb⟩; replace HA := Below.tr HA.drew.drew hb; clear hb)
                        go_roundw
                        case rel => first | exact ⟨i + 1, by omega, by go_num, HA⟩ | ((repeat apply Exists.intro); exact ⟨⟨i + 1, by omega, by go_num, HA⟩, rfl⟩)
                        case measure => first | (simp [intOf]; omega) | omega
                      · have hla' : (((i : Int) + 1) == (PL : Int)) = false := by simp; omega
                        have hln : (i : Int) + 1 < PL := by omega
                        obtain ⟨⟨kz, ku⟩, hz⟩ : ∃ x, Hid (P[i + 1]? = some x) := get_some (by rw [← HPL.out]; omega)
                        obtain ⟨b3, o3, heq3, -, hf0, -, -, -⟩ := EQ7.out.2.2 (i + 1) (kz, ku) hz.out
                        cases heq3
                        have ZA : Hid ((wr.alloc (.cells #[.string kx, .string kv] 55)).cell? ⟨b1, o1 + (i + 1) * 2, none⟩ = some (.string kz)) := cell_alloc (cell_below HR hf0) _
                        clear hf0
                        by_cases hzx : kz = kx ++ ⟨#[0]⟩
                        · have hzx' : (kz.toList == (kx ++ ⟨#[0]⟩ : ByteArray).toList) = true := str_eq_true hzx
                          clear CG0 hla hk32 hzx
                          go_wp2_with (first
                            | (go_at_call 15; have _t := tk1; clear _t tk1; refine (cG _ WIA.out).mono ?_; rintro y w8 ⟨rfl, hb⟩; have pb0 := cell_below hb PB.out.1; have pb1 := cell_below hb PB.out.2; replace HA := Below.tr HA hb; have WI8 := WIA.out.below hb; have y0 := cell_below hb YA.out; have zn := cell_below hb ZA.out; clear x0 x1 x2 x3 x4 xa0 xa1 xa2 xa3 xa4 z0 z1 WI; obtain ⟨x0, x1, x2, x3, x4⟩ := id WI8.1; clear hb))
                          go_region
                          go_wp2
                          go_region
                          go_wp2
                          go_roundw
                          case rel => first | exact ⟨i + 1, by omega, by go_num, HA.drew.drew⟩ | ((repeat apply Exists.intro); exact ⟨⟨i + 1, by omega, by go_num, HA.drew.drew⟩, rfl⟩)
                          case measure => first | (simp [intOf]; omega) | omega
                        · have hzx' : (kz.toList == (kx ++ ⟨#[0]⟩ : ByteArray).toList) = false := str_eq_false hzx
                          have cG0 := CG0.out (by omega) (fun q hq => by rw [hz.out] at hq; cases hq; exact hzx)
                          clear CG0 hla hk32 hzx
                          go_wp2_with (first
                            | (go_at_call 15; have _t := tk1; clear _t tk1; refine (cG _ WIA.out).mono ?_; rintro y w8 ⟨rfl, hb⟩; have pb0 := cell_below hb PB.out.1; have pb1 := cell_below hb PB.out.2; replace HA := Below.tr HA hb; have WI8 := WIA.out.below hb; have y0 := cell_below hb YA.out; have zn := cell_below hb ZA.out; clear x0 x1 x2 x3 x4 xa0 xa1 xa2 xa3 xa4 z0 z1 WI; obtain ⟨x0, x1, x2, x3, x4⟩ := id WI8.1; clear hb))
                          go_region
                          go_wp2
                          go_region
                          go_wp2_with (go_at_call 15; have _t := tk2; clear _t tk2; refine (cG0 _ (WI8.below ((Below.refl _ _).drew.drew))).mono ?_; rintro y w9 ⟨rfl, hb⟩; replace HA := Below.tr HA.drew.drew hb; clear hb)
                          go_roundw
                          case rel => first | exact ⟨i + 1, by omega, by go_num, HA⟩ | ((repeat apply Exists.intro); exact ⟨⟨i + 1, by omega, by go_num, HA⟩, rfl⟩)
                          case measure => first | (simp [intOf]; omega) | omega
                    · have hk32' : ((kx.size : Int) < 32) = False := eq_false (by omega)
                      clear CG0 hk32
                      go_wp2_with (first
                        | (go_at_call 15; have _t := tk1; clear _t tk1; refine (cG _ WIA.out).mono ?_; rintro y w8 ⟨rfl, hb⟩; have pb0 := cell_below hb PB.out.1; have pb1 := cell_below hb PB.out.2; replace HA := Below.tr HA hb; have WI8 := WIA.out.below hb; have y0 := cell_below hb YA.out; clear x0 x1 x2 x3 x4 xa0 xa1 xa2 xa3 xa4 z0 z1 WI; obtain ⟨x0, x1, x2, x3, x4⟩ := id WI8.1; clear hb))
                      go_region
                      go_wp2
                      go_region
                      go_wp2
                      go_roundw
                      case rel => first | exact ⟨i + 1, by omega, by go_num, HA.drew.drew⟩ | ((repeat apply Exists.intro); exact ⟨⟨i + 1, by omega, by go_num, HA.drew.drew⟩, rfl⟩)
                      case measure => first | (simp [intOf]; omega) | omega
                · obtain rfl : PL = i := by omega
                  have hi0 : ¬ (PL : Int) < PL := by omega
                  have EQr : Hid (IsQ wr q7 d7 P) := EQ7.out.below HR
                  replace HB := Below.tr (Below.tr HB H7) HR
                  go_wp2_with (first
                    | (go_at_call 9; refine (alive08_any _).mono ?_; rintro y w5 ⟨rfl, hb⟩; replace EQr : Hid (IsQ w5 q7 d7 P) := EQr.out.below hb; replace WI := WI.below hb; replace HB := Below.tr HB hb; clear x0 x1 x2 x3 x4; obtain ⟨x0, x1, x2, x3, x4⟩ := id WI.1; clear hb)
                    | (go_at_call 16; refine (tree_in WI).mono ?_; rintro y wT ⟨tq2, td2, tu2, rfl, TB2, hTQ2, hb⟩; rw [← HPP.out, ← HPL.out] at TB2; rw [← HPP.out] at hTQ2; have ET : Hid (IsQ wT tq2 td2 P) := hTQ2; replace EQr : Hid (IsQ wT q7 d7 P) := EQr.out.below hb; replace HB := Below.tr HB hb; clear hb x0 x1 x2 x3 x4 WI hTQ2; obtain ⟨⟨s0, s1, s2, s3⟩, -⟩ := TB2)
                    | (go_at_call 20; refine (refLikeP_any q7 tq2 d7 td2 PL PL P P _ HPL.out HPL.out EQr.out ET.out).mono ?_; rintro y wL ⟨rfl, hb⟩; rw [decide_eq_true rfl]; replace HB := Below.tr HB hb; clear hb))
                  go_ret
                  exact ⟨rfl, HB⟩
            · have HL0 : Hid (¬ LL.length = 0) := hL0
              clear HZ hL0
              go_wp2_with (first
                | (go_at_call 18; refine (scan_tree WI hR.out hB0.out HPP.out lo m HI.out.2.1 HM.out.2).mono ?_; rintro y w6 ⟨q, N, d, rfl, hN, hQ, -, hb⟩; rw [HS.out.2]; rw [HS.out.1] at hN hQ; have EN : Hid (N = LL.length) := hN; have EQ : Hid (IsQ w6 q d LL) := hQ; have h6 : Hid (Below wr.heap.size wr w6) := hb; have mN : N ≤ 9223372036854775807 := (by rw [EN.out]; exact Nat.le_trans EQ.out.1 EQ.out.2.1); have hNm : ¬ (m : Int) < N := (by have h1 := EN.out; have h2 := HLm.out; omega); have hNz : ((N : Int) == 0) = false := (by have h1 := EN.out; have h2 := HL0.out; simp; omega); clear hN hQ hb x0 x1 x2 x3 x4 WI)
                | (at_builtin; obtain ⟨v', w7, hrun, hown, hgr⟩ := append_Q w6 w4.heap.size (.slice uq K ud) K (P.take r) ((Turns.of_below (P := fun _ => False) h6.out).owns OWH.out (fun _ _ x => x)) (by have h1 := HB2.size; have h2 := h6.out.size; omega) q d N LL EN.out EQ.out (by have h1 := HLm.out; have h2 := EN.out; have h3 := HK.out; have h4 := HRI.out.2.2; have h5 := HM.out; rw [List.length_take] at h3; omega); have hown2 : w7.ownsRow w4.heap.size 55 2 v' P.length (cellsQ P) := (by have e : P.take r ++ LL = P := HTT.out.symm.trans HPT.out; have e2 : K + N = P.length := (by have h1 := congrArg List.length e; rw [List.length_append] at h1; have h2 := HK.out; have h3 := EN.out; omega); rw [e, e2] at hown; exact hown); obtain ⟨q7, d7, hv7, hQ7, -⟩ := owned_isQ hown2 rfl HPS.out; rw [← HPL.out] at hv7; subst hv7; refine Lib.wpList_append_run _ rfl _ _ _ _ rfl _ _ rfl rfl _ _ hrun ?_; have EQ7 : Hid (IsQ w7 q7 d7 P) := hQ7; clear hown2 hQ7; have H7 : Below w4.heap.size w4 w7 := Below.turns (Below.tr HB2 h6.out) ((Turns.refl _ _).grown hgr (fun k hk => hk)) (fun k hk => (OWH.out.lt k hk).1); clear hrun hown hgr))
              clear EN EQ h6 hNz HTT HSP HS HLm OWH HK HI
              go_loopw [76] (fun v wr => ∃ i : Nat, i ≤ PL ∧ v = .int .i64 i ∧ Below w7.heap.size w7 wr) (fun v _ => PL - (intOf v).toNat)
              case atStart => exact ⟨0, by omega, rfl, Below.refl _ _⟩
              case round =>
                obtain ⟨i, hi, rfl, HR⟩ := hrel
                have H7r := Below.tr H7 HR
                have WI := HW0.out.below H7r
                obtain ⟨x0, x1, x2, x3, x4⟩ := id WI.1
                by_cases hlt : i < PL
                · have hlt' : (i : Int) < PL := by omega
                  obtain ⟨⟨kx, kv⟩, hx⟩ : ∃ x, Hid (P[i]? = some x) := get_some (by rw [← HPL.out]; exact hlt)
                  obtain ⟨b1, o1, rfl, -, hc0, hc1, -, -⟩ := EQ7.out.2.2 i (kx, kv) hx.out
                  have z0 := cell_below HR hc0
                  have z1 := cell_below HR hc1
                  have hkn : 1 ≤ kx.size ∧ kx.size ≤ 32 := HRI.out.2.1 _ (List.mem_of_getElem? hx.out)
                  have hget : getP P kx = (kv, 0) := get_at_ HRI.out.1 hx.out
                  have cG : ∀ U, WoodIn U w.heap.size a n c a' n' c' b p f bs ns ps root gen → Calls Try.prog 15 #[.agg #[.slice a n c, .slice a' n' c', .slice b p f, .int .i64 root, .int .i64 gen], .string kx] U fun x w' => x = .returned (.tuple #[.string kv, .int .i64 0]) ∧ Below U.heap.size U w' := fun U hU => by have := get_tree hU hR.out hB0.out HPP.out kx hkn.1 hkn.2; rw [hget] at this; exact this
                  have CG0 : Hid (kx.size < 32 → (∀ q, P[i + 1]? = some q → q.1 ≠ kx ++ ⟨#[0]⟩) → ∀ U, WoodIn U w.heap.size a n c a' n' c' b p f bs ns ps root gen → Calls Try.prog 15 #[.agg #[.slice a n c, .slice a' n' c', .slice b p f, .int .i64 root, .int .i64 gen], .string (kx ++ ⟨#[0]⟩)] U fun x w' => x = .returned (.tuple #[.string ⟨#[]⟩, .int .i64 80]) ∧ Below U.heap.size U w') := fun h32 hnn U hU => by
                    have hsz : (kx ++ ⟨#[0]⟩ : ByteArray).size = kx.size + 1 := by rw [ByteArray.size_append]; rfl
                    have := get_tree hU hR.out hB0.out HPP.out (kx ++ ⟨#[0]⟩) (by omega) (by omega)
                    rw [getP_none (zero_miss HRI.out.1 hx.out hnn)] at this
                    exact this
                  have HA : Below w7.heap.size w7 (wr.alloc (.cells #[.string kx, .string kv] 55)) := HR.alloc HR.size _
                  have WIA : Hid (WoodIn (wr.alloc (.cells #[.string kx, .string kv] 55)) w.heap.size a n c a' n' c' b p f bs ns ps root gen) := WI.below ((Below.refl _ _).alloc (Nat.le_refl _) _)
                  have PB : Hid ((wr.alloc (.cells #[.string kx, .string kv] 55)).cell? ⟨wr.heap.size, 0, none⟩ = some (.string kx) ∧ (wr.alloc (.cells #[.string kx, .string kv] 55)).cell? ⟨wr.heap.size, 1, none⟩ = some (.string kv)) := ⟨World.cell?_alloc_at _ _ _ _ rfl, World.cell?_alloc_at _ _ _ _ rfl⟩
                  obtain ⟨xa0, xa1, xa2, xa3, xa4⟩ := id WIA.out.1
                  have tk1 : True := trivial
                  have tk2 : True := trivial
                  clear hc0 hc1 hget
                  by_cases h0 : i = 0
                  · have h0' : (0 < i) = False := eq_false (by omega)
                    have h0i : ((0 : Int) < (i : Int)) = False := eq_false (by omega)
                    clear h0
                    by_cases hk32 : kx.size < 32
                    · have hk32' : (kx.size : Int) < 32 := by omega
                      have hsum : ¬ 9223372036854775807 < kx.size + 1 := by omega
                      by_cases hla : i + 1 = PL
                      · have hla' : (((i : Int) + 1) == (PL : Int)) = true := by simp; omega
                        have cG0 := CG0.out (by omega) (fun q hq => by rw [List.getElem?_eq_none (by have := HPL.out; omega)] at hq; cases hq)
                        clear CG0 hla hk32
                        go_wp2_with (first
                          | (go_at_call 15; have _t := tk1; clear _t tk1; refine (cG _ WIA.out).mono ?_; rintro y w8 ⟨rfl, hb⟩; have pb0 := cell_below hb PB.out.1; have pb1 := cell_below hb PB.out.2; replace HA := Below.tr HA hb; have WI8 := WIA.out.below hb; clear x0 x1 x2 x3 x4 xa0 xa1 xa2 xa3 xa4 z0 z1 WI; obtain ⟨x0, x1, x2, x3, x4⟩ := id WI8.1; clear hb))
                        go_region
                        go_wp2
                        go_region
                        go_wp2_with (go_at_call 15; have _t := tk2; clear _t tk2; refine (cG0 _ (WI8.below ((Below.refl _ _).drew.drew))).mono ?_; rintro y w9 ⟨rfl, hb⟩; replace HA := Below.tr HA.drew.drew hb; clear hb)
                        go_roundw
                        case rel => first | exact ⟨i + 1, by omega, by go_num, HA⟩ | ((repeat apply Exists.intro); exact ⟨⟨i + 1, by omega, by go_num, HA⟩, rfl⟩)
                        case measure => first | (simp [intOf]; omega) | omega
                      · have hla' : (((i : Int) + 1) == (PL : Int)) = false := by simp; omega
                        have hln : (i : Int) + 1 < PL := by omega
                        obtain ⟨⟨kz, ku⟩, hz⟩ : ∃ x, Hid (P[i + 1]? = some x) := get_some (by rw [← HPL.out]; omega)
                        obtain ⟨b3, o3, heq3, -, hf0, -, -, -⟩ := EQ7.out.2.2 (i + 1) (kz, ku) hz.out
                        cases heq3
                        have ZA : Hid ((wr.alloc (.cells #[.string kx, .string kv] 55)).cell? ⟨b1, o1 + (i + 1) * 2, none⟩ = some (.string kz)) := cell_alloc (cell_below HR hf0) _
                        clear hf0
                        by_cases hzx : kz = kx ++ ⟨#[0]⟩
                        · have hzx' : (kz.toList == (kx ++ ⟨#[0]⟩ : ByteArray).toList) = true := str_eq_true hzx
                          clear CG0 hla hk32 hzx
                          go_wp2_with (first
                            | (go_at_call 15; have _t := tk1; clear _t tk1; refine (cG _ WIA.out).mono ?_; rintro y w8 ⟨rfl, hb⟩; have pb0 := cell_below hb PB.out.1; have pb1 := cell_below hb PB.out.2; replace HA := Below.tr HA hb; have WI8 := WIA.out.below hb; have zn := cell_below hb ZA.out; clear x0 x1 x2 x3 x4 xa0 xa1 xa2 xa3 xa4 z0 z1 WI; obtain ⟨x0, x1, x2, x3, x4⟩ := id WI8.1; clear hb))
                          go_region
                          go_wp2
                          go_region
                          go_wp2
                          go_roundw
                          case rel => first | exact ⟨i + 1, by omega, by go_num, HA.drew.drew⟩ | ((repeat apply Exists.intro); exact ⟨⟨i + 1, by omega, by go_num, HA.drew.drew⟩, rfl⟩)
                          case measure => first | (simp [intOf]; omega) | omega
                        · have hzx' : (kz.toList == (kx ++ ⟨#[0]⟩ : ByteArray).toList) = false := str_eq_false hzx
                          have cG0 := CG0.out (by omega) (fun q hq => by rw [hz.out] at hq; cases hq; exact hzx)
                          clear CG0 hla hk32 hzx
                          go_wp2_with (first
                            | (go_at_call 15; have _t := tk1; clear _t tk1; refine (cG _ WIA.out).mono ?_; rintro y w8 ⟨rfl, hb⟩; have pb0 := cell_below hb PB.out.1; have pb1 := cell_below hb PB.out.2; replace HA := Below.tr HA hb; have WI8 := WIA.out.below hb; have zn := cell_below hb ZA.out; clear x0 x1 x2 x3 x4 xa0 xa1 xa2 xa3 xa4 z0 z1 WI; obtain ⟨x0, x1, x2, x3, x4⟩ := id WI8.1; clear hb))
                          go_region
                          go_wp2
                          go_region
                          go_wp2_with (go_at_call 15; have _t := tk2; clear _t tk2; refine (cG0 _ (WI8.below ((Below.refl _ _).drew.drew))).mono ?_; rintro y w9 ⟨rfl, hb⟩; replace HA := Below.tr HA.drew.drew hb; clear hb)
                          go_roundw
                          case rel => first | exact ⟨i + 1, by omega, by go_num, HA⟩ | ((repeat apply Exists.intro); exact ⟨⟨i + 1, by omega, by go_num, HA⟩, rfl⟩)
                          case measure => first | (simp [intOf]; omega) | omega
                    · have hk32' : ((kx.size : Int) < 32) = False := eq_false (by omega)
                      clear CG0 hk32
                      go_wp2_with (first
                        | (go_at_call 15; have _t := tk1; clear _t tk1; refine (cG _ WIA.out).mono ?_; rintro y w8 ⟨rfl, hb⟩; have pb0 := cell_below hb PB.out.1; have pb1 := cell_below hb PB.out.2; replace HA := Below.tr HA hb; have WI8 := WIA.out.below hb; clear x0 x1 x2 x3 x4 xa0 xa1 xa2 xa3 xa4 z0 z1 WI; obtain ⟨x0, x1, x2, x3, x4⟩ := id WI8.1; clear hb))
                      go_region
                      go_wp2
                      go_region
                      go_wp2
                      go_roundw
                      case rel => first | exact ⟨i + 1, by omega, by go_num, HA.drew.drew⟩ | ((repeat apply Exists.intro); exact ⟨⟨i + 1, by omega, by go_num, HA.drew.drew⟩, rfl⟩)
                      case measure => first | (simp [intOf]; omega) | omega
                  · have h0' : (0 < i) = True := eq_true (by omega)
                    have h0i : ((0 : Int) < (i : Int)) = True := eq_true (by omega)
                    obtain ⟨jm, hjm⟩ : ∃ k : Nat, (i : Int) - 1 = k := ⟨i - 1, by omega⟩
                    obtain ⟨⟨ky, kw⟩, hy⟩ : ∃ x, Hid (P[jm]? = some x) := get_some (by rw [← HPL.out]; omega)
                    obtain ⟨b2, o2, heq, -, hd0, -, -, -⟩ := EQ7.out.2.2 jm (ky, kw) hy.out
                    cases heq
                    have YA : Hid ((wr.alloc (.cells #[.string kx, .string kv] 55)).cell? ⟨b1, o1 + jm * 2, none⟩ = some (.string ky)) := cell_alloc (cell_below HR hd0) _
                    have hjm' : (jm : Int) < PL := by omega
                    have hlt3 : Op.bytesLess ky.toList kx.toList = true := rising_at HRI.out.1 hy.out hx.out (by omega)
                    have hge2 : Op.bytesLess kx.toList ky.toList = false := ltB_asymm (a := ky) (b := kx) hlt3
                    have hne2 : (ky.toList == kx.toList) = false := str_eq_false (fun e => by rw [e] at hlt3; exact Bool.noConfusion (hlt3.symm.trans (ltB_irrefl kx)))
                    clear hd0 h0
                    by_cases hk32 : kx.size < 32
                    · have hk32' : (kx.size : Int) < 32 := by omega
                      have hsum : ¬ 9223372036854775807 < kx.size + 1 := by omega
                      by_cases hla : i + 1 = PL
                      · have hla' : (((i : Int) + 1) == (PL : Int)) = true := by simp; omega
                        have cG0 := CG0.out (by omega) (fun q hq => by rw [List.getElem?_eq_none (by have := HPL.out; omega)] at hq; cases hq)
                        clear CG0 hla hk32
                        go_wp2_with (first
                          | (go_at_call 15; have _t := tk1; clear _t tk1; refine (cG _ WIA.out).mono ?_; rintro y w8 ⟨rfl, hb⟩; have pb0 := cell_below hb PB.out.1; have pb1 := cell_below hb PB.out.2; replace HA := Below.tr HA hb; have WI8 := WIA.out.below hb; have y0 := cell_below hb YA.out; clear x0 x1 x2 x3 x4 xa0 xa1 xa2 xa3 xa4 z0 z1 WI; obtain ⟨x0, x1, x2, x3, x4⟩ := id WI8.1; clear hb))
                        go_region
                        go_wp2
                        go_region
                        go_wp2_with (go_at_call 15; have _t := tk2; clear _t tk2; refine (cG0 _ (WI8.below ((Below.refl _ _).drew.drew))).mono ?_; rintro y w9 ⟨rfl, hb⟩; replace HA := Below.tr HA.drew.drew hb; clear hb)
                        go_roundw
                        case rel => first | exact ⟨i + 1, by omega, by go_num, HA⟩ | ((repeat apply Exists.intro); exact ⟨⟨i + 1, by omega, by go_num, HA⟩, rfl⟩)
                        case measure => first | (simp [intOf]; omega) | omega
                      · have hla' : (((i : Int) + 1) == (PL : Int)) = false := by simp; omega
                        have hln : (i : Int) + 1 < PL := by omega
                        obtain ⟨⟨kz, ku⟩, hz⟩ : ∃ x, Hid (P[i + 1]? = some x) := get_some (by rw [← HPL.out]; omega)
                        obtain ⟨b3, o3, heq3, -, hf0, -, -, -⟩ := EQ7.out.2.2 (i + 1) (kz, ku) hz.out
                        cases heq3
                        have ZA : Hid ((wr.alloc (.cells #[.string kx, .string kv] 55)).cell? ⟨b1, o1 + (i + 1) * 2, none⟩ = some (.string kz)) := cell_alloc (cell_below HR hf0) _
                        clear hf0
                        by_cases hzx : kz = kx ++ ⟨#[0]⟩
                        · have hzx' : (kz.toList == (kx ++ ⟨#[0]⟩ : ByteArray).toList) = true := str_eq_true hzx
                          clear CG0 hla hk32 hzx
                          go_wp2_with (first
                            | (go_at_call 15; have _t := tk1; clear _t tk1; refine (cG _ WIA.out).mono ?_; rintro y w8 ⟨rfl, hb⟩; have pb0 := cell_below hb PB.out.1; have pb1 := cell_below hb PB.out.2; replace HA := Below.tr HA hb; have WI8 := WIA.out.below hb; have y0 := cell_below hb YA.out; have zn := cell_below hb ZA.out; clear x0 x1 x2 x3 x4 xa0 xa1 xa2 xa3 xa4 z0 z1 WI; obtain ⟨x0, x1, x2, x3, x4⟩ := id WI8.1; clear hb))
                          go_region
                          go_wp2
                          go_region
                          go_wp2
                          go_roundw
                          case rel => first | exact ⟨i + 1, by omega, by go_num, HA.drew.drew⟩ | ((repeat apply Exists.intro); exact ⟨⟨i + 1, by omega, by go_num, HA.drew.drew⟩, rfl⟩)
                          case measure => first | (simp [intOf]; omega) | omega
                        · have hzx' : (kz.toList == (kx ++ ⟨#[0]⟩ : ByteArray).toList) = false := str_eq_false hzx
                          have cG0 := CG0.out (by omega) (fun q hq => by rw [hz.out] at hq; cases hq; exact hzx)
                          clear CG0 hla hk32 hzx
                          go_wp2_with (first
                            | (go_at_call 15; have _t := tk1; clear _t tk1; refine (cG _ WIA.out).mono ?_; rintro y w8 ⟨rfl, hb⟩; have pb0 := cell_below hb PB.out.1; have pb1 := cell_below hb PB.out.2; replace HA := Below.tr HA hb; have WI8 := WIA.out.below hb; have y0 := cell_below hb YA.out; have zn := cell_below hb ZA.out; clear x0 x1 x2 x3 x4 xa0 xa1 xa2 xa3 xa4 z0 z1 WI; obtain ⟨x0, x1, x2, x3, x4⟩ := id WI8.1; clear hb))
                          go_region
                          go_wp2
                          go_region
                          go_wp2_with (go_at_call 15; have _t := tk2; clear _t tk2; refine (cG0 _ (WI8.below ((Below.refl _ _).drew.drew))).mono ?_; rintro y w9 ⟨rfl, hb⟩; replace HA := Below.tr HA.drew.drew hb; clear hb)
                          go_roundw
                          case rel => first | exact ⟨i + 1, by omega, by go_num, HA⟩ | ((repeat apply Exists.intro); exact ⟨⟨i + 1, by omega, by go_num, HA⟩, rfl⟩)
                          case measure => first | (simp [intOf]; omega) | omega
                    · have hk32' : ((kx.size : Int) < 32) = False := eq_false (by omega)
                      clear CG0 hk32
                      go_wp2_with (first
                        | (go_at_call 15; have _t := tk1; clear _t tk1; refine (cG _ WIA.out).mono ?_; rintro y w8 ⟨rfl, hb⟩; have pb0 := cell_below hb PB.out.1; have pb1 := cell_below hb PB.out.2; replace HA := Below.tr HA hb; have WI8 := WIA.out.below hb; have y0 := cell_below hb YA.out; clear x0 x1 x2 x3 x4 xa0 xa1 xa2 xa3 xa4 z0 z1 WI; obtain ⟨x0, x1, x2, x3, x4⟩ := id WI8.1; clear hb))
                      go_region
                      go_wp2
                      go_region
                      go_wp2
                      go_roundw
                      case rel => first | exact ⟨i + 1, by omega, by go_num, HA.drew.drew⟩ | ((repeat apply Exists.intro); exact ⟨⟨i + 1, by omega, by go_num, HA.drew.drew⟩, rfl⟩)
                      case measure => first | (simp [intOf]; omega) | omega
                · obtain rfl : PL = i := by omega
                  have hi0 : ¬ (PL : Int) < PL := by omega
                  have EQr : Hid (IsQ wr q7 d7 P) := EQ7.out.below HR
                  replace HB := Below.tr (Below.tr HB H7) HR
                  go_wp2_with (first
                    | (go_at_call 9; refine (alive08_any _).mono ?_; rintro y w5 ⟨rfl, hb⟩; replace EQr : Hid (IsQ w5 q7 d7 P) := EQr.out.below hb; replace WI := WI.below hb; replace HB := Below.tr HB hb; clear x0 x1 x2 x3 x4; obtain ⟨x0, x1, x2, x3, x4⟩ := id WI.1; clear hb)
                    | (go_at_call 16; refine (tree_in WI).mono ?_; rintro y wT ⟨tq2, td2, tu2, rfl, TB2, hTQ2, hb⟩; rw [← HPP.out, ← HPL.out] at TB2; rw [← HPP.out] at hTQ2; have ET : Hid (IsQ wT tq2 td2 P) := hTQ2; replace EQr : Hid (IsQ wT q7 d7 P) := EQr.out.below hb; replace HB := Below.tr HB hb; clear hb x0 x1 x2 x3 x4 WI hTQ2; obtain ⟨⟨s0, s1, s2, s3⟩, -⟩ := TB2)
                    | (go_at_call 20; refine (refLikeP_any q7 tq2 d7 td2 PL PL P P _ HPL.out HPL.out EQr.out ET.out).mono ?_; rintro y wL ⟨rfl, hb⟩; rw [decide_eq_true rfl]; replace HB := Below.tr HB hb; clear hb))
                  go_ret
                  exact ⟨rfl, HB⟩

end Go.Proofs.Ytmldemgciidpbaa
