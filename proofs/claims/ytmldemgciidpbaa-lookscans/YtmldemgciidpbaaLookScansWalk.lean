/-
  The walk through the statement LookScans.
-/
import Derived.Test.YtmldemgciidpbaaBdE
namespace Go.Proofs.Ytmldemgciidpbaa
open Go.RowKit Plain
set_option linter.unusedVariables false

/-- What holds of a row's beginning, and of the key behind it. -/
theorem take_facts {X l : List (ByteArray × ByteArray)} {m : Nat} {nx : ByteArray} (hX : Rising X) (hl : l = X.take m) (hn : nx = nextK m X) : l.length ≤ m ∧ (∀ i x y, l[i]? = some x → l[i + 1]? = some y → ltB x.1 y.1 = true) ∧ (nx.size ≠ 0 → ∀ x, l[l.length - 1]? = some x → l.length ≠ 0 → ltB x.1 nx = true) := by
  subst hl hn
  have hpw := List.pairwise_iff_getElem.1 hX
  refine ⟨by rw [List.length_take]; omega, fun i x y hx hy => ?_, fun hne x hx h0 => ?_⟩
  · rw [List.getElem?_take] at hx hy
    split at hx
    · split at hy
      · obtain ⟨a1, rfl⟩ := List.getElem?_eq_some_iff.1 hx
        obtain ⟨a2, rfl⟩ := List.getElem?_eq_some_iff.1 hy
        exact hpw i (i + 1) a1 a2 (by omega)
      · cases hy
    · cases hx
  · have hm : m < X.length := Nat.lt_of_not_le fun h => hne (by rw [nextK_few h]; rfl)
    rw [List.length_take, Nat.min_eq_left (by omega)] at hx h0
    rw [List.getElem?_take, if_pos (by omega)] at hx
    obtain ⟨a1, rfl⟩ := List.getElem?_eq_some_iff.1 hx
    unfold nextK
    rw [List.getElem?_eq_getElem hm]
    exact hpw (m - 1) m a1 hm (by omega)

set_option maxRecDepth 20000 in
set_option maxHeartbeats 4000000 in
theorem lookScans_walk (a : Option Addr) (c : Nat) (bs : List Bool) (a' : Option Addr) (c' : Nat) (ns : List Bool) (b : Option Addr) (f : Nat) (ps : List ByteArray) (root gen : Int) (lo : ByteArray) (most : Int) (w : World) (hB : IsB w a c bs) (hB' : IsB w a' c' ns) (hP : IsS w b f ps) (_h1 : (Lit.int .i64 root).wf = true) (_h2 : (Lit.int .i64 gen).wf = true) (hkey : lo.size ≤ maxLen) (_h3 : (Lit.int .i64 most).wf = true) :
    Calls Try.prog 5 #[.agg #[.slice a bs.length c, .slice a' ns.length c', .slice b ps.length f, .int .i64 root, .int .i64 gen], .string lo, .int .i64 most] w fun e w' => e = .returned (.bool true) ∧ Below w.heap.size w w' := by
  obtain ⟨n, hn⟩ : ∃ n, n = bs.length := ⟨_, rfl⟩
  obtain ⟨n', hn'⟩ : ∃ n, n = ns.length := ⟨_, rfl⟩
  obtain ⟨p, hp⟩ : ∃ n, n = ps.length := ⟨_, rfl⟩
  rw [← hn, ← hn', ← hp]
  obtain ⟨W, hW⟩ : ∃ W, W = w.alloc (.cells #[.slice a n c, .slice a' n' c', .slice b p f, .int .i64 root, .int .i64 gen] 27) := ⟨_, rfl⟩
  have HB : Below w.heap.size w W := by rw [hW]; exact (Below.refl _ _).alloc (Nat.le_refl _) _
  have WI : WoodIn W w.heap.size a n c a' n' c' b p f bs ns ps root gen := ⟨by rw [hW]; exact woodBox_new _ _ _ _ _ _ _ rfl, hn, hn', hp, hB.below HB, hB'.below HB, hP.below HB⟩
  have hlo : Hid (lo.size ≤ maxLen) := hkey
  have mk : lo.size ≤ 9223372036854775807 := hkey
  have hns : Hid (n' = ns.length) := hn'
  clear hn hn' hp hB hB' hP _h1 _h2 _h3 hkey
  obtain ⟨x0, x1, x2, x3, x4⟩ := id (hW ▸ WI.1)
  cases hs : (decide (n' ≤ 300) && decide (p ≤ 300)) with
  | false =>
    go_enter Try.func5, Try.ntmps5
    go_wp2_with (first
      | (go_at_call 8; rw [← hW]; refine (small_in WI).mono ?_; rintro y w1 ⟨rfl, hb⟩; rw [hs]; replace WI := WI.below hb; replace HB := Below.tr HB hb; clear x0 x1 x2 x3 x4; obtain ⟨x0, x1, x2, x3, x4⟩ := id WI.1; clear hb)
      | (go_at_call 9; refine (alive08_any _).mono ?_; rintro y w5 ⟨rfl, hb⟩; replace HB := Below.tr HB hb; clear hb)
      )
    go_ret
    exact ⟨rfl, HB⟩
  | true =>
    have h300 : Hid (n' ≤ 300) := by simp at hs; exact hs.1
    obtain ⟨r, hr⟩ : ∃ r, Hid (rightW bs ns ps root gen = r) := ⟨_, rfl⟩
    obtain ⟨t, hPt⟩ : ∃ t, Hid (t = treeS ns ps root gen) := ⟨_, rfl⟩
    by_cases hg : r = true ∧ lo.size ≤ 32 ∧ 0 ≤ most ∧ most ≤ 256
    · obtain ⟨rfl, hk2, hm0, hm2⟩ := hg
      have hR := hr
      obtain ⟨m, rfl⟩ : ∃ m : Nat, most = m := ⟨most.toNat, by omega⟩
      have k2 : ¬ (32 : Int) < lo.size := by omega
      have k3 : ¬ (m : Int) < 0 := by omega
      have k4 : ¬ (256 : Int) < (m : Int) := by omega
      obtain ⟨most, hmm⟩ : ∃ x : Int, x = m := ⟨_, rfl⟩
      cases hbad : t.bad with
      | false =>
        obtain ⟨P, hPP⟩ : ∃ P, P = t.pairs := ⟨_, rfl⟩
        have HG : Hid (∀ {l nx e}, ScanC (rightW bs ns ps root gen) lo m (treeS ns ps root gen) l nx e → e = 0 ∧ l = scanL P lo m ∧ nx = scanK P lo m) := fun {l nx e} hS => by
          unfold ScanC at hS
          rw [if_pos ⟨hR.out, hk2, hm0, hm2⟩, ← hPt.out, if_neg (by rw [hbad]; decide), ← hPP, Int.toNat_natCast] at hS
          exact hS
        obtain ⟨PL, hPL⟩ : ∃ k, Hid (k = P.length) := ⟨_, rfl⟩
        have HPP : Hid (P = t.pairs) := hPP
        have hPn : Hid (PL ≤ 1000000000) := by
          show PL ≤ _
          rw [hPL.out]
          have := tree_few (ns := ns) (ps := ps) (root := root) (gen := gen) (by rw [← hns.out]; exact h300.out)
          rw [← hPt.out, ← hPP] at this
          exact Nat.le_trans this (by decide)
        clear hmm hk2 hm0 hm2 hr hPP
        go_enter Try.func5, Try.ntmps5
        go_wp2_with (first
          | (go_at_call 8; rw [← hW]; refine (small_in WI).mono ?_; rintro y w1 ⟨rfl, hb⟩; rw [hs]; replace WI := WI.below hb; replace HB := Below.tr HB hb; clear x0 x1 x2 x3 x4; obtain ⟨x0, x1, x2, x3, x4⟩ := id WI.1; clear hb)
          | (go_at_call 18; refine (scan_in WI lo m hlo.out).mono ?_; rintro y w2 HX; obtain ⟨l, nx, e, q, N, d, rfl, hN, hQ, -, hS, hb⟩ := HX; obtain ⟨rfl, rfl, rfl⟩ := HG.out hS; have EN : Hid (N = (scanL P lo m).length) := hN; have EQ : Hid (IsQ w2 q d (scanL P lo m)) := hQ; clear hN hQ hS; replace WI := WI.below hb; replace HB := Below.tr HB hb; clear x0 x1 x2 x3 x4; obtain ⟨x0, x1, x2, x3, x4⟩ := id WI.1; clear hb)
          | (go_at_call 11; refine (right_in WI).mono ?_; rintro y w3 ⟨rfl, hb⟩; rw [hR.out]; replace EQ : Hid (IsQ w3 q d (scanL P lo m)) := EQ.out.below hb; replace WI := WI.below hb; replace HB := Below.tr HB hb; clear x0 x1 x2 x3 x4; obtain ⟨x0, x1, x2, x3, x4⟩ := id WI.1; clear hb)
          | (go_at_call 16; refine (tree_in WI).mono ?_; rintro y w4 ⟨tq, td, tu, rfl, TB, hTQ, hb⟩; rw [← hPt.out, hbad, ← HPP.out, ← hPL.out] at TB; rw [← hPt.out, ← HPP.out] at hTQ; replace EQ : Hid (IsQ w4 q d (scanL P lo m)) := EQ.out.below hb; have ET : Hid (IsQ w4 tq td P) := hTQ; clear hTQ; replace HB := Below.tr HB hb; clear x0 x1 x2 x3 x4 WI; obtain ⟨⟨q0, q1, q2, q3⟩, -⟩ := TB)
          | (go_at_call 19; refine (refScanP_any tq td PL m P lo _ hPL.out ET.out hPn.out).mono ?_; rintro y w6 ⟨rq, rk, rd, rfl, rN, hrQ, -, hb⟩; have RN : Hid (rk = (scanL P lo m).length) := rN; have RQ : Hid (IsQ w6 rq rd (scanL P lo m)) := hrQ; replace EQ : Hid (IsQ w6 q d (scanL P lo m)) := EQ.out.below hb; replace HB := Below.tr HB hb; clear hb rN hrQ q0 q1 q2 q3 ET)
          | (go_at_call 9; refine (alive08_any _).mono ?_; rintro y w5 ⟨rfl, hb⟩; replace EQ : Hid (IsQ w5 q d (scanL P lo m)) := EQ.out.below hb; replace RQ : Hid (IsQ w5 rq rd (scanL P lo m)) := RQ.out.below hb; replace HB := Below.tr HB hb; clear hb)
          | (go_at_call 20; refine (refLikeP_any q rq d rd N rk (scanL P lo m) (scanL P lo m) _ EN.out RN.out EQ.out RQ.out).mono ?_; rintro y w7 ⟨rfl, hb⟩; rw [decide_eq_true rfl]; replace HB := Below.tr HB hb; clear hb)
          )
        go_ret
        exact ⟨rfl, HB⟩

      | true =>
        have HG : Hid (∀ {l nx e}, ScanC (rightW bs ns ps root gen) lo m (treeS ns ps root gen) l nx e → (e = 81 ∧ l = [] ∧ nx = ⟨#[]⟩) ∨ (e = 0 ∧ ∃ X, Rising X ∧ (∀ p ∈ X, keyIn p.1 ∧ ltB p.1 lo = false) ∧ l = X.take m ∧ nx = nextK m X)) := fun {l nx e} hS => by
          unfold ScanC at hS
          rw [if_pos ⟨hR.out, hk2, hm0, hm2⟩, ← hPt.out, if_pos hbad, Int.toNat_natCast] at hS
          exact hS
        clear hmm hk2 hm0 hm2 hr
        go_enter Try.func5, Try.ntmps5
        go_wp2_with (first
          | (go_at_call 8; rw [← hW]; refine (small_in WI).mono ?_; rintro y w1 ⟨rfl, hb⟩; rw [hs]; replace WI := WI.below hb; replace HB := Below.tr HB hb; clear x0 x1 x2 x3 x4; obtain ⟨x0, x1, x2, x3, x4⟩ := id WI.1; clear hb)
          | (go_at_call 18; refine (scan_in WI lo m hlo.out).mono ?_; rintro y w2 HX; obtain ⟨l, nx, e, q, N, d, rfl, hN, hQ, -, hS, hb⟩ := HX; have ES : Hid ((e = 81 ∧ l = [] ∧ nx = ⟨#[]⟩) ∨ (e = 0 ∧ ∃ X, Rising X ∧ (∀ p ∈ X, keyIn p.1 ∧ ltB p.1 lo = false) ∧ l = X.take m ∧ nx = nextK m X)) := HG.out hS; have EN : Hid (N = l.length) := hN; have EQ : Hid (IsQ w2 q d l) := hQ; clear hN hQ hS; replace WI := WI.below hb; replace HB := Below.tr HB hb; clear x0 x1 x2 x3 x4; obtain ⟨x0, x1, x2, x3, x4⟩ := id WI.1; clear hb)
          | (go_at_call 11; refine (right_in WI).mono ?_; rintro y w3 ⟨rfl, hb⟩; rw [hR.out]; replace EQ : Hid (IsQ w3 q d l) := EQ.out.below hb; replace WI := WI.below hb; replace HB := Below.tr HB hb; clear x0 x1 x2 x3 x4; obtain ⟨x0, x1, x2, x3, x4⟩ := id WI.1; clear hb)
          | (go_at_call 16; refine (tree_in WI).mono ?_; rintro y w4 ⟨tq, td, tu, rfl, TB, hTQ, hb⟩; rw [← hPt.out, hbad] at TB; rw [← hPt.out] at hTQ; replace EQ : Hid (IsQ w4 q d l) := EQ.out.below hb; clear hTQ; replace HB := Below.tr HB hb; clear x0 x1 x2 x3 x4 WI; obtain ⟨⟨q0, q1, q2, q3⟩, -⟩ := TB)
          )

        · rcases ES.out with ⟨rfl, rfl, rfl⟩ | ⟨rfl, X, hX, hXk, hl, hnx⟩
          · obtain rfl : N = 0 := EN.out
            go_wp2_with (go_at_call 9; refine (alive08_any _).mono ?_; rintro y w5 ⟨rfl, hb⟩; replace HB := Below.tr HB hb; clear hb)
            go_ret
            exact ⟨rfl, HB⟩
          · exact absurd (show ((0 : Int) != 0) = true by assumption) (by decide)
        · rcases ES.out with ⟨rfl, rfl, rfl⟩ | ⟨rfl, X, hX, hXk, hl, hnx⟩
          · exact absurd (show ((81 : Int) != 0) = false by assumption) (by decide)
          obtain ⟨hlm, hrise, hlast⟩ := take_facts hX hl hnx
          have hfrom : Hid (∀ x ∈ l, ltB x.1 lo = false) := fun x hx => (hXk x (List.mem_of_mem_take (hl ▸ hx))).2
          have HT : Hid (l.length ≤ m ∧ (∀ i x y, l[i]? = some x → l[i + 1]? = some y → ltB x.1 y.1 = true) ∧ (nx.size ≠ 0 → ∀ x, l[l.length - 1]? = some x → l.length ≠ 0 → ltB x.1 nx = true)) := ⟨hlm, hrise, hlast⟩
          have mN : N ≤ 9223372036854775807 := by rw [EN.out]; exact Nat.le_trans EQ.out.1 EQ.out.2.1
          clear hX hXk hl hnx hlm hrise hlast ES q0 q1 q2 q3 HG
          go_loopw [107] (fun v wr => ∃ j : Nat, j ≤ N ∧ v = .int .i64 j ∧ Below w4.heap.size w4 wr) (fun v _ => N - (intOf v).toNat)
          case atStart => exact ⟨0, by omega, rfl, Below.refl _ _⟩
          case round =>
            obtain ⟨j, hj, rfl, HR⟩ := hrel
            by_cases hlt : j < N
            · have hlt' : (j : Int) < N := by omega
              obtain ⟨⟨kx, kv⟩, hx⟩ : ∃ x, Hid (l[j]? = some x) := get_some (by rw [← EN.out]; exact hlt)
              obtain ⟨b1, o1, rfl, -, hc0, hc1, -, -⟩ := EQ.out.2.2 j (kx, kv) hx.out
              have z0 := cell_below HR hc0
              have z1 := cell_below HR hc1
              have hge : Op.bytesLess kx.toList lo.toList = false := hfrom.out _ (List.mem_of_getElem? hx.out)
              have HA := HR.alloc HR.size (.cells #[.string kx, .string kv] 55)
              clear hc0 hc1
              by_cases h0 : j = 0
              · have h0' : (0 < j) = False := eq_false (by omega)
                have h0i : ((0 : Int) < (j : Int)) = False := eq_false (by omega)
                clear h0
                go_wp2
                go_region
                go_wp2
                go_roundw
                case rel => first | exact ⟨j + 1, by omega, by go_num, HA.drew⟩ | ((repeat apply Exists.intro); exact ⟨⟨j + 1, by omega, by go_num, HA.drew⟩, rfl⟩)
                case measure => first | (simp [intOf]; omega) | omega
              · have h0' : (0 < j) = True := eq_true (by omega)
                have h0i : ((0 : Int) < (j : Int)) = True := eq_true (by omega)
                obtain ⟨jm, hjm⟩ : ∃ k : Nat, (j : Int) - 1 = k := ⟨j - 1, by omega⟩
                obtain ⟨⟨ky, kw⟩, hy⟩ : ∃ x, Hid (l[jm]? = some x) := get_some (by rw [← EN.out]; omega)
                obtain ⟨b2, o2, heq, -, hd0, hd1, -, -⟩ := EQ.out.2.2 jm (ky, kw) hy.out
                cases heq
                have y0 := cell_alloc (cell_below HR hd0) (.cells #[.string kx, .string kv] 55)
                have hjm' : (jm : Int) < N := by omega
                have hlt3 : Op.bytesLess ky.toList kx.toList = true := HT.out.2.1 jm (ky, kw) (kx, kv) hy.out (by rw [show jm + 1 = j by omega]; exact hx.out)
                have hge2 : Op.bytesLess kx.toList ky.toList = false := ltB_asymm (a := ky) (b := kx) hlt3
                have hne2 : (kx.toList == ky.toList) = false := str_eq_false (fun e => by rw [e] at hlt3; exact Bool.noConfusion (hlt3.symm.trans (ltB_irrefl ky)))
                clear hd0 hd1 h0
                go_wp2
                go_region
                go_wp2
                go_roundw
                case rel => first | exact ⟨j + 1, by omega, by go_num, HA.drew⟩ | ((repeat apply Exists.intro); exact ⟨⟨j + 1, by omega, by go_num, HA.drew⟩, rfl⟩)
                case measure => simp [intOf]; omega
            · obtain rfl : N = j := by omega
              have hj0 : ¬ (N : Int) < N := by omega
              have hNm : (N : Int) ≤ m := by have := HT.out.1; have := EN.out; omega
              replace HB := Below.tr HB HR
              by_cases hnx : nx.size = 0
              · obtain rfl := str_empty hnx
                go_wp2_with (go_at_call 9; refine (alive08_any _).mono ?_; rintro y w5 ⟨rfl, hb⟩; replace HB := Below.tr HB hb; clear hb)
                go_ret
                exact ⟨rfl, HB⟩
              · have hnf := str_full hnx
                by_cases hN0 : N = 0
                · have hN0' : ((N : Int) == 0) = true := by simp [hN0]
                  clear hN0
                  go_wp2_with (go_at_call 9; refine (alive08_any _).mono ?_; rintro y w5 ⟨rfl, hb⟩; replace HB := Below.tr HB hb; clear hb)
                  go_ret
                  exact ⟨rfl, HB⟩
                · have hN0' : ((N : Int) == 0) = false := by simp [hN0]
                  obtain ⟨jm, hjm⟩ : ∃ k : Nat, (N : Int) - 1 = k := ⟨N - 1, by omega⟩
                  obtain ⟨⟨ky, kw⟩, hy⟩ : ∃ x, Hid (l[jm]? = some x) := get_some (by rw [← EN.out]; omega)
                  obtain ⟨b2, o2, rfl, -, hd0, hd1, -, -⟩ := EQ.out.2.2 jm (ky, kw) hy.out
                  have y0 := cell_below HR hd0
                  have hjm' : (jm : Int) < N := by omega
                  have hlt3 : Op.bytesLess ky.toList nx.toList = true := HT.out.2.2 hnx (ky, kw) (by rw [← EN.out, show N - 1 = jm by omega]; exact hy.out) (by rw [← EN.out]; exact hN0)
                  have hge2 : Op.bytesLess nx.toList ky.toList = false := ltB_asymm (a := ky) (b := nx) hlt3
                  have hne2 : (nx.toList == ky.toList) = false := str_eq_false (fun e => by rw [e] at hlt3; exact Bool.noConfusion (hlt3.symm.trans (ltB_irrefl ky)))
                  clear hd0 hd1 hN0 hnx
                  go_wp2_with (go_at_call 9; refine (alive08_any _).mono ?_; rintro y w5 ⟨rfl, hb5⟩; replace HB := Below.tr HB hb5; replace y0 := cell_below hb5 y0; clear hb5)
                  go_ret
                  exact ⟨rfl, HB⟩
    · have HG : Hid (∀ {l nx e}, ScanC (rightW bs ns ps root gen) lo most (treeS ns ps root gen) l nx e → e = 1 ∧ l = [] ∧ nx = ⟨#[]⟩) := fun {l nx e} hS => by
        unfold ScanC at hS
        rw [hr.out, if_neg hg] at hS
        exact hS
      have hR := hr
      cases r with
      | false =>
        clear hg hr
        go_enter Try.func5, Try.ntmps5
        go_wp2_with (first
          | (go_at_call 8; rw [← hW]; refine (small_in WI).mono ?_; rintro y w1 ⟨rfl, hb⟩; rw [hs]; replace WI := WI.below hb; replace HB := Below.tr HB hb; clear x0 x1 x2 x3 x4; obtain ⟨x0, x1, x2, x3, x4⟩ := id WI.1; clear hb)
          | (go_at_call 18; refine (scan_in WI lo most hlo.out).mono ?_; rintro y w2 HX; obtain ⟨l, nx, e, q, N, d, rfl, hN, -, -, hS, hb⟩ := HX; obtain ⟨rfl, rfl, rfl⟩ := HG.out hS; obtain rfl : N = 0 := hN; replace WI := WI.below hb; replace HB := Below.tr HB hb; clear x0 x1 x2 x3 x4; obtain ⟨x0, x1, x2, x3, x4⟩ := id WI.1; clear hb)
          | (go_at_call 11; refine (right_in WI).mono ?_; rintro y w3 ⟨rfl, hb⟩; rw [hR.out]; replace WI := WI.below hb; replace HB := Below.tr HB hb; clear x0 x1 x2 x3 x4; obtain ⟨x0, x1, x2, x3, x4⟩ := id WI.1; clear hb)
          | (go_at_call 9; refine (alive08_any _).mono ?_; rintro y w5 ⟨rfl, hb⟩; replace HB := Below.tr HB hb; clear hb)
          )
        go_ret
        exact ⟨rfl, HB⟩

      | true =>
        by_cases hk2 : lo.size ≤ 32
        · have hk2' : ¬ (32 : Int) < lo.size := by omega
          by_cases hm0 : 0 ≤ most
          · have hm0' : ¬ most < 0 := by omega
            have hm2' : (256 : Int) < most := Int.not_le.1 fun h => hg ⟨rfl, hk2, hm0, h⟩
            clear hg hr
            go_enter Try.func5, Try.ntmps5
            go_wp2_with (first
              | (go_at_call 8; rw [← hW]; refine (small_in WI).mono ?_; rintro y w1 ⟨rfl, hb⟩; rw [hs]; replace WI := WI.below hb; replace HB := Below.tr HB hb; clear x0 x1 x2 x3 x4; obtain ⟨x0, x1, x2, x3, x4⟩ := id WI.1; clear hb)
              | (go_at_call 18; refine (scan_in WI lo most hlo.out).mono ?_; rintro y w2 HX; obtain ⟨l, nx, e, q, N, d, rfl, hN, -, -, hS, hb⟩ := HX; obtain ⟨rfl, rfl, rfl⟩ := HG.out hS; obtain rfl : N = 0 := hN; replace WI := WI.below hb; replace HB := Below.tr HB hb; clear x0 x1 x2 x3 x4; obtain ⟨x0, x1, x2, x3, x4⟩ := id WI.1; clear hb)
              | (go_at_call 11; refine (right_in WI).mono ?_; rintro y w3 ⟨rfl, hb⟩; rw [hR.out]; replace WI := WI.below hb; replace HB := Below.tr HB hb; clear x0 x1 x2 x3 x4; obtain ⟨x0, x1, x2, x3, x4⟩ := id WI.1; clear hb)
              | (go_at_call 9; refine (alive08_any _).mono ?_; rintro y w5 ⟨rfl, hb⟩; replace HB := Below.tr HB hb; clear hb)
              )
            go_ret
            exact ⟨rfl, HB⟩

          · have hm0' : most < 0 := by omega
            clear hg hr
            go_enter Try.func5, Try.ntmps5
            go_wp2_with (first
              | (go_at_call 8; rw [← hW]; refine (small_in WI).mono ?_; rintro y w1 ⟨rfl, hb⟩; rw [hs]; replace WI := WI.below hb; replace HB := Below.tr HB hb; clear x0 x1 x2 x3 x4; obtain ⟨x0, x1, x2, x3, x4⟩ := id WI.1; clear hb)
              | (go_at_call 18; refine (scan_in WI lo most hlo.out).mono ?_; rintro y w2 HX; obtain ⟨l, nx, e, q, N, d, rfl, hN, -, -, hS, hb⟩ := HX; obtain ⟨rfl, rfl, rfl⟩ := HG.out hS; obtain rfl : N = 0 := hN; replace WI := WI.below hb; replace HB := Below.tr HB hb; clear x0 x1 x2 x3 x4; obtain ⟨x0, x1, x2, x3, x4⟩ := id WI.1; clear hb)
              | (go_at_call 11; refine (right_in WI).mono ?_; rintro y w3 ⟨rfl, hb⟩; rw [hR.out]; replace WI := WI.below hb; replace HB := Below.tr HB hb; clear x0 x1 x2 x3 x4; obtain ⟨x0, x1, x2, x3, x4⟩ := id WI.1; clear hb)
              | (go_at_call 9; refine (alive08_any _).mono ?_; rintro y w5 ⟨rfl, hb⟩; replace HB := Below.tr HB hb; clear hb)
              )
            go_ret
            exact ⟨rfl, HB⟩

        · have hk2' : (32 : Int) < lo.size := by omega
          clear hg hr
          go_enter Try.func5, Try.ntmps5
          go_wp2_with (first
            | (go_at_call 8; rw [← hW]; refine (small_in WI).mono ?_; rintro y w1 ⟨rfl, hb⟩; rw [hs]; replace WI := WI.below hb; replace HB := Below.tr HB hb; clear x0 x1 x2 x3 x4; obtain ⟨x0, x1, x2, x3, x4⟩ := id WI.1; clear hb)
            | (go_at_call 18; refine (scan_in WI lo most hlo.out).mono ?_; rintro y w2 HX; obtain ⟨l, nx, e, q, N, d, rfl, hN, -, -, hS, hb⟩ := HX; obtain ⟨rfl, rfl, rfl⟩ := HG.out hS; obtain rfl : N = 0 := hN; replace WI := WI.below hb; replace HB := Below.tr HB hb; clear x0 x1 x2 x3 x4; obtain ⟨x0, x1, x2, x3, x4⟩ := id WI.1; clear hb)
            | (go_at_call 11; refine (right_in WI).mono ?_; rintro y w3 ⟨rfl, hb⟩; rw [hR.out]; replace WI := WI.below hb; replace HB := Below.tr HB hb; clear x0 x1 x2 x3 x4; obtain ⟨x0, x1, x2, x3, x4⟩ := id WI.1; clear hb)
            | (go_at_call 9; refine (alive08_any _).mono ?_; rintro y w5 ⟨rfl, hb⟩; replace HB := Below.tr HB hb; clear hb)
            )
          go_ret
          exact ⟨rfl, HB⟩


end Go.Proofs.Ytmldemgciidpbaa
