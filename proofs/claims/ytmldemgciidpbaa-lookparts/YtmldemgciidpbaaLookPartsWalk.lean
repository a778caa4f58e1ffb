/-
  The walk through the statement LookParts.
-/
import Derived.Test.YtmldemgciidpbaaBdE
namespace Go.Proofs.Ytmldemgciidpbaa
open Go.RowKit Plain
set_option linter.unusedVariables false

theorem isQ_take {w : World} {a : Option Addr} {c : Nat} {l l' : List (ByteArray × ByteArray)} (h : IsQ w a c l) (hl : l.take l'.length = l') : IsQ w a c l' := by
  have hle : l'.length ≤ l.length := by have := congrArg List.length hl; rw [List.length_take] at this; omega
  refine ⟨Nat.le_trans hle h.1, h.2.1, fun j p hp => h.2.2 j p ?_⟩
  rw [← hl, List.getElem?_take] at hp
  split at hp
  · exact hp
  · cases hp

theorem isQ_map {w : World} {a : Option Addr} {c : Nat} {l : List (ByteArray × ByteArray)} (h : IsQ w a c l) (m : Nat) : IsQ w (Option.map (fun x => x.add (m * 2)) a) (c - m) (l.drop m) := by
  refine ⟨by have := h.1; rw [List.length_drop]; omega, Nat.le_trans (Nat.sub_le _ _) h.2.1, fun j p hp => ?_⟩
  rw [List.getElem?_drop] at hp
  obtain ⟨b, o, rfl, h1, h2, h3, h4⟩ := h.2.2 _ p hp
  refine ⟨b, o + m * 2, by rw [Option.map_some, at_add], h1, ?_, ?_, h4⟩
  · rw [show o + m * 2 + j * 2 = o + (m + j) * 2 by omega]; exact h2
  · rw [show o + m * 2 + j * 2 + 1 = o + (m + j) * 2 + 1 by omega]; exact h3

theorem isQ_none {w : World} (a : Option Addr) {c : Nat} (hc : c ≤ maxLen) : IsQ w a c [] := ⟨Nat.zero_le _, hc, fun j p hp => by simp at hp⟩

theorem isQ_spent {w : World} {a : Option Addr} {m : Nat} {l : List (ByteArray × ByteArray)} (h : IsQ w a m l) : IsQ w a 0 (l.drop m) := by
  rw [List.drop_eq_nil_of_le h.1]
  exact isQ_none a (Nat.zero_le _)

set_option maxRecDepth 20000 in
set_option maxHeartbeats 4000000 in
theorem lookParts_walk (a : Option Addr) (c : Nat) (bs : List Bool) (a' : Option Addr) (c' : Nat) (ns : List Bool) (b : Option Addr) (f : Nat) (ps : List ByteArray) (root gen : Int) (lo : ByteArray) (mi ni : Int) (w : World) (hB : IsB w a c bs) (hB' : IsB w a' c' ns) (hP : IsS w b f ps) (_h1 : (Lit.int .i64 root).wf = true) (_h2 : (Lit.int .i64 gen).wf = true) (hkey : lo.size ≤ maxLen) (_h3 : (Lit.int .i64 mi).wf = true) (_h4 : (Lit.int .i64 ni).wf = true) :
    Calls Try.prog 7 #[.agg #[.slice a bs.length c, .slice a' ns.length c', .slice b ps.length f, .int .i64 root, .int .i64 gen], .string lo, .int .i64 mi, .int .i64 ni] w fun e w' => e = .returned (.bool true) ∧ Below w.heap.size w w' := by
  obtain ⟨n, hn⟩ : ∃ n, n = bs.length := ⟨_, rfl⟩
  obtain ⟨n', hn'⟩ : ∃ n, n = ns.length := ⟨_, rfl⟩
  obtain ⟨p, hp⟩ : ∃ n, n = ps.length := ⟨_, rfl⟩
  rw [← hn, ← hn', ← hp]
  obtain ⟨W, hW⟩ : ∃ W, W = w.alloc (.cells #[.slice a n c, .slice a' n' c', .slice b p f, .int .i64 root, .int .i64 gen] 27) := ⟨_, rfl⟩
  have HB : Below w.heap.size w W := by rw [hW]; exact (Below.refl _ _).alloc (Nat.le_refl _) _
  have WI : WoodIn W w.heap.size a n c a' n' c' b p f bs ns ps root gen := ⟨by rw [hW]; exact woodBox_new _ _ _ _ _ _ _ rfl, hn, hn', hp, hB.below HB, hB'.below HB, hP.below HB⟩
  have mk : lo.size ≤ 9223372036854775807 := hkey
  clear hn hn' hp hB hB' hP _h1 _h2 _h3 _h4 hkey
  obtain ⟨x0, x1, x2, x3, x4⟩ := id (hW ▸ WI.1)
  cases hs : (decide (n' ≤ 300) && decide (p ≤ 300)) with
  | false =>
    go_enter Try.func7, Try.ntmps7
    go_wp2_with (first
      | (go_at_call 8; rw [← hW]; refine (small_in WI).mono ?_; rintro y w1 ⟨rfl, hb⟩; rw [hs]; replace WI := WI.below hb; replace HB := Below.tr HB hb; clear x0 x1 x2 x3 x4; obtain ⟨x0, x1, x2, x3, x4⟩ := id WI.1; clear hb)
      | (go_at_call 9; refine (alive08_any _).mono ?_; rintro y w5 ⟨rfl, hb⟩; replace HB := Below.tr HB hb; clear hb)
      )
    go_ret
    exact ⟨rfl, HB⟩

  | true =>
    obtain ⟨r, hR⟩ : ∃ r, Hid (rightW bs ns ps root gen = r) := ⟨_, rfl⟩
    obtain ⟨t, hPt⟩ : ∃ t, Hid (t = treeS ns ps root gen) := ⟨_, rfl⟩
    cases r with
    | false =>
      go_enter Try.func7, Try.ntmps7
      go_wp2_with (first
        | (go_at_call 8; rw [← hW]; refine (small_in WI).mono ?_; rintro y w1 ⟨rfl, hb⟩; rw [hs]; replace WI := WI.below hb; replace HB := Below.tr HB hb; clear x0 x1 x2 x3 x4; obtain ⟨x0, x1, x2, x3, x4⟩ := id WI.1; clear hb)
        | (go_at_call 11; refine (right_in WI).mono ?_; rintro y w3 ⟨rfl, hb⟩; rw [hR.out]; replace WI := WI.below hb; replace HB := Below.tr HB hb; clear x0 x1 x2 x3 x4; obtain ⟨x0, x1, x2, x3, x4⟩ := id WI.1; clear hb)
        | (go_at_call 9; refine (alive08_any _).mono ?_; rintro y w5 ⟨rfl, hb⟩; replace HB := Below.tr HB hb; clear hb)
        )
      go_ret
      exact ⟨rfl, HB⟩

    | true =>
      cases hbad : t.bad with
      | true =>
        go_enter Try.func7, Try.ntmps7
        go_wp2_with (first
          | (go_at_call 8; rw [← hW]; refine (small_in WI).mono ?_; rintro y w1 ⟨rfl, hb⟩; rw [hs]; replace WI := WI.below hb; replace HB := Below.tr HB hb; clear x0 x1 x2 x3 x4; obtain ⟨x0, x1, x2, x3, x4⟩ := id WI.1; clear hb)
          | (go_at_call 11; refine (right_in WI).mono ?_; rintro y w3 ⟨rfl, hb⟩; rw [hR.out]; replace WI := WI.below hb; replace HB := Below.tr HB hb; clear x0 x1 x2 x3 x4; obtain ⟨x0, x1, x2, x3, x4⟩ := id WI.1; clear hb)
          | (go_at_call 16; refine (tree_in WI).mono ?_; rintro y w4 ⟨tq, td, tu, rfl, TB, hTQ, hb⟩; rw [← hPt.out, hbad] at TB; clear hTQ; replace WI := WI.below hb; replace HB := Below.tr HB hb; clear x0 x1 x2 x3 x4; obtain ⟨x0, x1, x2, x3, x4⟩ := id WI.1; clear hb; obtain ⟨⟨q0, q1, q2, q3⟩, -⟩ := TB)
          | (go_at_call 9; refine (alive08_any _).mono ?_; rintro y w5 ⟨rfl, hb⟩; replace HB := Below.tr HB hb; clear hb)
          )
        go_ret
        exact ⟨rfl, HB⟩

      | false =>
        by_cases hk : lo.size ≤ 32
        · have hk' : ¬ (32 : Int) < lo.size := by omega
          have hk2 : Hid (lo.size ≤ 32) := hk
          have hB0 : Hid ((treeS ns ps root gen).bad = false) := by show _ = _; rw [← hPt.out]; exact hbad
          obtain ⟨P, HPP⟩ : ∃ P, Hid (P = (treeS ns ps root gen).pairs) := ⟨_, rfl⟩
          obtain ⟨hris, hkin⟩ := tree_facts hB0.out
          rw [← HPP.out] at hris hkin
          obtain ⟨m, hm1⟩ : ∃ m : Nat, min (max mi 0) 100 = (m : Int) := ⟨(min (max mi 0) 100).toNat, by omega⟩
          obtain ⟨k, hk1⟩ : ∃ k : Nat, min (max ni 0) 100 = (k : Int) := ⟨(min (max ni 0) 100).toNat, by omega⟩
          have hm : Hid (m ≤ 256 ∧ k ≤ 256 ∧ m + k ≤ 256) := ⟨by omega, by omega, by omega⟩
          have mx1 := max_run (x := mi) (y := 0) (z := max mi 0) rfl
          have mn1 := min_run (x := max mi 0) (y := 100) (z := (m : Int)) hm1
          have mx2 := max_run (x := ni) (y := 0) (z := max ni 0) rfl
          have mn2 := min_run (x := max ni 0) (y := 100) (z := (k : Int)) hk1
          have hmk : ((m + k : Nat) : Int) = (m : Int) + k := by omega
          have hwr : IntKind.i64.wrap ((m : Int) + (k : Int)) = ((m + k : Nat) : Int) := by rw [IntKind.wrap_i64]; have := hm.out; omega
          obtain ⟨X1, hX1⟩ : ∃ x, x = max mi 0 := ⟨_, rfl⟩
          obtain ⟨X2, hX2⟩ : ∃ x, x = max ni 0 := ⟨_, rfl⟩
          rw [← hX1] at mx1 mn1
          rw [← hX2] at mx2 mn2
          obtain ⟨A, hA⟩ : ∃ A, A = scanL P lo m := ⟨_, rfl⟩
          obtain ⟨nx, hnx⟩ : ∃ A, A = scanK P lo m := ⟨_, rfl⟩
          obtain ⟨A', hA'⟩ : ∃ A, A = scanL P lo (m + k) := ⟨_, rfl⟩
          obtain ⟨nx', hnx'⟩ : ∃ A, A = scanK P lo (m + k) := ⟨_, rfl⟩
          have HA : Hid (A = scanL P lo m ∧ nx = scanK P lo m ∧ A' = scanL P lo (m + k) ∧ nx' = scanK P lo (m + k)) := ⟨hA, hnx, hA', hnx'⟩
          have hbeg := scan_begin P lo m k
          rw [← hA, ← hA'] at hbeg
          have HT : Hid (∀ V q d, IsQ V q d A' → IsQ V q d A) := fun V q d h => isQ_take h hbeg
          have HL : Hid (A.length ≤ A'.length) := by show _ ≤ _; have := congrArg List.length hbeg; rw [List.length_take] at this; omega
          have tk1 : True := trivial
          have tk2 : True := trivial
          have tk3 : True := trivial
          have tk4 : True := trivial
          by_cases hfew : (fromP P lo).length ≤ m
          · obtain rfl : nx = ⟨#[]⟩ := by rw [hnx]; exact (scanK_none hkin).2 hfew
            obtain rfl : nx' = ⟨#[]⟩ := by rw [hnx']; exact (scanK_none hkin).2 (by omega)
            have HE : Hid (A'.length = A.length) := by
              show _ = _
              rw [hA, hA']
              unfold scanL
              rw [List.take_of_length_le hfew, List.take_of_length_le (by omega)]
            clear hris hkin hA hnx hA' hnx' hbeg hfew hX1 hX2 hm1 hk1 hk hmk
            go_enter Try.func7, Try.ntmps7
            go_wp2_with (first
              | (go_at_call 8; rw [← hW]; refine (small_in WI).mono ?_; rintro y w1 ⟨rfl, hb⟩; rw [hs]; replace WI := WI.below hb; replace HB := Below.tr HB hb; clear x0 x1 x2 x3 x4; obtain ⟨x0, x1, x2, x3, x4⟩ := id WI.1; clear hb)
              | (go_at_call 11; refine (right_in WI).mono ?_; rintro y w3 ⟨rfl, hb⟩; rw [hR.out]; replace WI := WI.below hb; replace HB := Below.tr HB hb; clear x0 x1 x2 x3 x4; obtain ⟨x0, x1, x2, x3, x4⟩ := id WI.1; clear hb)
              | (go_at_call 16; refine (tree_in WI).mono ?_; rintro y w4 ⟨tq, td, tu, rfl, TB, hTQ, hb⟩; rw [← hPt.out, hbad] at TB; clear hTQ; replace WI := WI.below hb; replace HB := Below.tr HB hb; clear x0 x1 x2 x3 x4; obtain ⟨x0, x1, x2, x3, x4⟩ := id WI.1; clear hb; obtain ⟨⟨q0, q1, q2, q3⟩, -⟩ := TB)
              | (go_at_call 18; have _t := tk1; clear _t tk1; refine (scan_tree WI hR.out hB0.out HPP.out lo m hk2.out hm.out.1).mono ?_; rintro y w6 ⟨q, N, d, rfl, hN, hQ, -, hb⟩; rw [← HA.out.2.1]; have EN : Hid (N = A.length) := (by show N = _; rw [HA.out.1]; exact hN); have EQ : Hid (IsQ w6 q d A) := (by show IsQ _ _ _ _; rw [HA.out.1]; exact hQ); clear hN hQ; replace WI := WI.below hb; replace HB := Below.tr HB hb; clear x0 x1 x2 x3 x4; obtain ⟨x0, x1, x2, x3, x4⟩ := id WI.1; clear hb)
              | (go_at_call 18; have _t := tk2; clear _t tk2; refine (scan_tree WI hR.out hB0.out HPP.out lo (m + k) hk2.out hm.out.2.2).mono ?_; rintro y w7 ⟨q', N', d', rfl, hN', hQ', -, hb⟩; rw [← HA.out.2.2.2]; have EN' : Hid (N' = A'.length) := (by show N' = _; rw [HA.out.2.2.1]; exact hN'); have EQ' : Hid (IsQ w7 q' d' A') := (by show IsQ _ _ _ _; rw [HA.out.2.2.1]; exact hQ'); replace EQ : Hid (IsQ w7 q d A) := EQ.out.below hb; have mN : N ≤ 9223372036854775807 := (by rw [EN.out]; exact Nat.le_trans EQ.out.1 EQ.out.2.1); have mN' : N' ≤ 9223372036854775807 := (by rw [EN'.out]; exact Nat.le_trans EQ'.out.1 EQ'.out.2.1); have hNN : (N : Int) ≤ N' := (by have := EN.out; have := EN'.out; have := HL.out; omega); have hNd : (N : Int) ≤ d' := (by have h1 := EN.out; have h2 := EQ'.out.1; have := HL.out; omega); have hNN2 : ((N' : Int) == (N : Int)) = true := (by have h1 := EN.out; have h2 := EN'.out; have h3 := HE.out; simp; omega); clear hN' hQ'; replace WI := WI.below hb; replace HB := Below.tr HB hb; clear x0 x1 x2 x3 x4; obtain ⟨x0, x1, x2, x3, x4⟩ := id WI.1; clear hb)
              | (go_at_call 20; have _t := tk3; clear _t tk3; refine (refLikeP_any q' q d' d N N A A _ EN.out EN.out (HT.out _ _ _ EQ'.out) EQ.out).mono ?_; rintro y w8 ⟨rfl, hb⟩; rw [decide_eq_true rfl]; replace EQ : Hid (IsQ w8 q d A) := EQ.out.below hb; replace EQ' : Hid (IsQ w8 q' d' A') := EQ'.out.below hb; replace WI := WI.below hb; replace HB := Below.tr HB hb; clear x0 x1 x2 x3 x4; obtain ⟨x0, x1, x2, x3, x4⟩ := id WI.1; clear hb)
              | (go_at_call 9; refine (alive08_any _).mono ?_; rintro y w5 ⟨rfl, hb⟩; replace EQ : Hid (IsQ w5 q d A) := EQ.out.below hb; replace EQ' : Hid (IsQ w5 q' d' A') := EQ'.out.below hb; replace WI := WI.below hb; replace HB := Below.tr HB hb; clear x0 x1 x2 x3 x4; obtain ⟨x0, x1, x2, x3, x4⟩ := id WI.1; clear hb)
              )
            go_ret
            exact ⟨rfl, HB⟩

          · have hgt : m < (fromP P lo).length := by omega
            have hpar := scan_parts hris (n := k) hgt
            rw [← hA', ← hnx, ← hnx', ← hA] at hpar
            have HN : Hid (A'.drop m = scanL P nx k ∧ scanK P nx k = nx' ∧ A.length = m) := ⟨hpar.1, hpar.2.1.symm, hpar.2.2⟩
            have hnk0 : 1 ≤ nx.size ∧ nx.size ≤ 32 := by
              obtain ⟨q, hq, e⟩ := scanK_some hgt
              rw [hnx, e]
              exact hkin q (List.mem_filter.1 (List.mem_of_getElem? hq)).1
            have hnk : Hid (nx.size ≤ 32) := hnk0.2
            have hnf := str_full (s := nx) (by omega)
            have tk5 : True := trivial
            clear hris hkin hA hnx hA' hnx' hbeg hfew hX1 hX2 hm1 hk1 hk hmk hgt hpar hnk0
            go_enter Try.func7, Try.ntmps7
            go_wp2_with (first
              | (go_at_call 8; rw [← hW]; refine (small_in WI).mono ?_; rintro y w1 ⟨rfl, hb⟩; rw [hs]; replace WI := WI.below hb; replace HB := Below.tr HB hb; clear x0 x1 x2 x3 x4; obtain ⟨x0, x1, x2, x3, x4⟩ := id WI.1; clear hb)
              | (go_at_call 11; refine (right_in WI).mono ?_; rintro y w3 ⟨rfl, hb⟩; rw [hR.out]; replace WI := WI.below hb; replace HB := Below.tr HB hb; clear x0 x1 x2 x3 x4; obtain ⟨x0, x1, x2, x3, x4⟩ := id WI.1; clear hb)
              | (go_at_call 16; refine (tree_in WI).mono ?_; rintro y w4 ⟨tq, td, tu, rfl, TB, hTQ, hb⟩; rw [← hPt.out, hbad] at TB; clear hTQ; replace WI := WI.below hb; replace HB := Below.tr HB hb; clear x0 x1 x2 x3 x4; obtain ⟨x0, x1, x2, x3, x4⟩ := id WI.1; clear hb; obtain ⟨⟨q0, q1, q2, q3⟩, -⟩ := TB)
              | (go_at_call 18; have _t := tk1; clear _t tk1; refine (scan_tree WI hR.out hB0.out HPP.out lo m hk2.out hm.out.1).mono ?_; rintro y w6 ⟨q, N, d, rfl, hN, hQ, -, hb⟩; rw [← HA.out.2.1]; have EN : Hid (N = A.length) := (by show N = _; rw [HA.out.1]; exact hN); have EQ : Hid (IsQ w6 q d A) := (by show IsQ _ _ _ _; rw [HA.out.1]; exact hQ); clear hN hQ; replace WI := WI.below hb; replace HB := Below.tr HB hb; clear x0 x1 x2 x3 x4; obtain ⟨x0, x1, x2, x3, x4⟩ := id WI.1; clear hb)
              | (go_at_call 18; have _t := tk2; clear _t tk2; refine (scan_tree WI hR.out hB0.out HPP.out lo (m + k) hk2.out hm.out.2.2).mono ?_; rintro y w7 ⟨q', N', d', rfl, hN', hQ', -, hb⟩; rw [← HA.out.2.2.2]; have EN' : Hid (N' = A'.length) := (by show N' = _; rw [HA.out.2.2.1]; exact hN'); have EQ' : Hid (IsQ w7 q' d' A') := (by show IsQ _ _ _ _; rw [HA.out.2.2.1]; exact hQ'); replace EQ : Hid (IsQ w7 q d A) := EQ.out.below hb; have mN : N ≤ 9223372036854775807 := (by rw [EN.out]; exact Nat.le_trans EQ.out.1 EQ.out.2.1); have mN' : N' ≤ 9223372036854775807 := (by rw [EN'.out]; exact Nat.le_trans EQ'.out.1 EQ'.out.2.1); have hNN : (N : Int) ≤ N' := (by have := EN.out; have := EN'.out; have := HL.out; omega); have hNd : (N : Int) ≤ d' := (by have h1 := EN.out; have h2 := EQ'.out.1; have := HL.out; omega); clear hN' hQ'; replace WI := WI.below hb; replace HB := Below.tr HB hb; clear x0 x1 x2 x3 x4; obtain ⟨x0, x1, x2, x3, x4⟩ := id WI.1; clear hb)
              | (go_at_call 20; have _t := tk3; clear _t tk3; refine (refLikeP_any q' q d' d N N A A _ EN.out EN.out (HT.out _ _ _ EQ'.out) EQ.out).mono ?_; rintro y w8 ⟨rfl, hb⟩; rw [decide_eq_true rfl]; replace EQ : Hid (IsQ w8 q d A) := EQ.out.below hb; replace EQ' : Hid (IsQ w8 q' d' A') := EQ'.out.below hb; replace WI := WI.below hb; replace HB := Below.tr HB hb; clear x0 x1 x2 x3 x4; obtain ⟨x0, x1, x2, x3, x4⟩ := id WI.1; clear hb)
              | (go_at_call 9; refine (alive08_any _).mono ?_; rintro y w5 ⟨rfl, hb⟩; replace EQ : Hid (IsQ w5 q d A) := EQ.out.below hb; replace EQ' : Hid (IsQ w5 q' d' A') := EQ'.out.below hb; replace WI := WI.below hb; replace HB := Below.tr HB hb; clear x0 x1 x2 x3 x4; obtain ⟨x0, x1, x2, x3, x4⟩ := id WI.1; clear hb)
              | (go_at_call 18; have _t := tk4; clear _t tk4; refine (scan_tree WI hR.out hB0.out HPP.out nx k hnk.out hm.out.2.1).mono ?_; rintro y w9 ⟨q2, N2, d2, rfl, hN2, hQ2, -, hb⟩; rw [HN.out.2.1]; have EN2 : Hid (N2 = (A'.drop m).length) := (by show N2 = _; rw [HN.out.1]; exact hN2); have EQ2 : Hid (IsQ w9 q2 d2 (A'.drop m)) := (by show IsQ _ _ _ _; rw [HN.out.1]; exact hQ2); replace EQ' : Hid (IsQ w9 q' d' A') := EQ'.out.below hb; have hNm : ((N : Int) == (m : Int)) = true := (by have h1 := HN.out.2.2; have h2 := EN.out; simp; omega); have hmN : (m : Int) ≤ N' := (by have h1 := HN.out.2.2; have h2 := EN.out; omega); have hmd : (m : Int) ≤ d' := (by have h1 := HN.out.2.2; have h2 := EN.out; omega); have cL2 : Calls Try.prog 20 #[.slice (Option.map (fun x => x.add (m * 2)) q') (N' - m) (d' - m), .slice q2 N2 d2] w9 (fun e w' => e = .returned (.bool true) ∧ Below w9.heap.size w9 w') := (by have := refLikeP_any (Option.map (fun x => x.add (m * 2)) q') q2 (d' - m) d2 (N' - m) N2 (A'.drop m) (A'.drop m) w9 (by rw [List.length_drop, EN'.out]) EN2.out (isQ_map EQ'.out m) EQ2.out; rw [decide_eq_true rfl] at this; exact this); have cL3 : Hid (d' = m → Calls Try.prog 20 #[.slice q' (N' - m) 0, .slice q2 N2 d2] w9 (fun e w' => e = .returned (.bool true) ∧ Below w9.heap.size w9 w')) := (fun e => by have := refLikeP_any q' q2 0 d2 (N' - m) N2 (A'.drop m) (A'.drop m) w9 (by rw [List.length_drop, EN'.out]) EN2.out (isQ_spent (by rw [← e]; exact EQ'.out)) EQ2.out; rw [decide_eq_true rfl] at this; exact this); clear hN2 hQ2; replace WI := WI.below hb; replace HB := Below.tr HB hb; clear x0 x1 x2 x3 x4; obtain ⟨x0, x1, x2, x3, x4⟩ := id WI.1; clear hb)
              )
            · refine (cL3.out (by omega)).mono ?_
              rintro y w10 ⟨rfl, hb⟩
              replace HB := Below.tr HB hb
              go_wp2
              go_ret
              exact ⟨rfl, HB⟩
            · refine cL2.mono ?_
              rintro y w10 ⟨rfl, hb⟩
              replace HB := Below.tr HB hb
              go_wp2
              go_ret
              exact ⟨rfl, HB⟩
        · have hk' : (32 : Int) < lo.size := by omega
          clear hk
          go_enter Try.func7, Try.ntmps7
          go_wp2_with (first
            | (go_at_call 8; rw [← hW]; refine (small_in WI).mono ?_; rintro y w1 ⟨rfl, hb⟩; rw [hs]; replace WI := WI.below hb; replace HB := Below.tr HB hb; clear x0 x1 x2 x3 x4; obtain ⟨x0, x1, x2, x3, x4⟩ := id WI.1; clear hb)
            | (go_at_call 11; refine (right_in WI).mono ?_; rintro y w3 ⟨rfl, hb⟩; rw [hR.out]; replace WI := WI.below hb; replace HB := Below.tr HB hb; clear x0 x1 x2 x3 x4; obtain ⟨x0, x1, x2, x3, x4⟩ := id WI.1; clear hb)
            | (go_at_call 16; refine (tree_in WI).mono ?_; rintro y w4 ⟨tq, td, tu, rfl, TB, hTQ, hb⟩; rw [← hPt.out, hbad] at TB; clear hTQ; replace WI := WI.below hb; replace HB := Below.tr HB hb; clear x0 x1 x2 x3 x4; obtain ⟨x0, x1, x2, x3, x4⟩ := id WI.1; clear hb; obtain ⟨⟨q0, q1, q2, q3⟩, -⟩ := TB)
            | (go_at_call 9; refine (alive08_any _).mono ?_; rintro y w5 ⟨rfl, hb⟩; replace HB := Below.tr HB hb; clear hb)
            )
          go_ret
          exact ⟨rfl, HB⟩


end Go.Proofs.Ytmldemgciidpbaa
