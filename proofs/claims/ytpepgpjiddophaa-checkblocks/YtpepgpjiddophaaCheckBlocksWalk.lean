/-
  The walk through the statement CheckBlocks.
-/
import Derived.Test.YtpepgpjiddophaaSbD
namespace Go.Proofs.Ytpepgpjiddophaa
open Go.RowKit Plain
set_option linter.unusedVariables false


set_option maxRecDepth 20000 in
set_option maxHeartbeats 4000000 in
theorem checkBlocks_walk (a : Option Addr) (c : Nat) (bs : List Bool) (a' : Option Addr) (c' : Nat) (ns : List Bool) (b : Option Addr) (f : Nat) (ps : List ByteArray) (root gen : Int) (am : Option Addr) (cm : Nat) (ms : List Int) (w : World) (hB : IsB w a c bs) (hB' : IsB w a' c' ns) (hP : IsS w b f ps) (_h1 : (Lit.int .i64 root).wf = true) (_h2 : (Lit.int .i64 gen).wf = true) (hI : IsI w am cm ms) :
    Calls Try.prog 3 #[.agg #[.slice a bs.length c, .slice a' ns.length c', .slice b ps.length f, .int .i64 root, .int .i64 gen], .slice am ms.length cm] w fun e w' => e = .returned (.bool true) ∧ Below w.heap.size w w' := by
  obtain ⟨n, hn⟩ : ∃ n, n = bs.length := ⟨_, rfl⟩
  obtain ⟨n', hn'⟩ : ∃ n, n = ns.length := ⟨_, rfl⟩
  obtain ⟨p, hp⟩ : ∃ n, n = ps.length := ⟨_, rfl⟩
  obtain ⟨nm, hm⟩ : ∃ n, n = ms.length := ⟨_, rfl⟩
  rw [← hn, ← hn', ← hp, ← hm]
  obtain ⟨W, hW⟩ : ∃ W, W = w.alloc (.cells #[.slice a n c, .slice a' n' c', .slice b p f, .int .i64 root, .int .i64 gen] 27) := ⟨_, rfl⟩
  have HB : Below w.heap.size w W := by rw [hW]; exact (Below.refl _ _).alloc (Nat.le_refl _) _
  have WI : WoodIn W w.heap.size a n c a' n' c' b p f bs ns ps root gen := ⟨by rw [hW]; exact woodBox_new _ _ _ _ _ _ _ rfl, hn, hn', hp, hB.below HB, hB'.below HB, hP.below HB⟩
  have cS0 : ∀ V, Calls Try.prog 5 #[.agg #[.slice a n c, .slice a' n' c', .slice b p f, .int .i64 root, .int .i64 gen]] V fun e w' => e = .returned (.bool (decide (n' ≤ 300) && decide (p ≤ 300))) ∧ Below V.heap.size V w' := fun V => small11_any a a' b n c n' c' p f root gen V (by rw [hn']; exact Nat.le_trans hB'.1 hB'.2.1) (by rw [hp]; exact Nat.le_trans hP.1 hP.2.1)
  have cA := alive11_any
  obtain ⟨eB, heB⟩ : ∃ e, e = blocksE (rightW bs ns ps root gen) (treeS ns ps root gen) := ⟨_, rfl⟩
  obtain ⟨LB, hLB⟩ : ∃ l, l = blocksR (rightW bs ns ps root gen) ns (treeS ns ps root gen) := ⟨_, rfl⟩
  have cB : ∀ V, WoodIn V w.heap.size a n c a' n' c' b p f bs ns ps root gen → Calls Try.prog 7 #[.agg #[.slice a n c, .slice a' n' c', .slice b p f, .int .i64 root, .int .i64 gen]] V fun x w' => BlocksC V x w' LB eB := fun V x => by
    rw [heB, hLB]
    exact blocks_any a a' b n c n' c' p f bs ns ps root gen V x.2.1 x.2.2.1 x.2.2.2.1 x.2.2.2.2.1 x.2.2.2.2.2.1 x.2.2.2.2.2.2
  have cR : ∀ V, WoodIn V w.heap.size a n c a' n' c' b p f bs ns ps root gen → Calls Try.prog 8 #[.agg #[.slice a n c, .slice a' n' c', .slice b p f, .int .i64 root, .int .i64 gen]] V fun x w' => BlocksC V x w' LB eB := fun V x => by
    rw [heB, hLB]
    exact (refBlocks_any a a' b n c n' c' p f bs ns ps root gen V x.2.1 x.2.2.1 x.2.2.2.1 x.2.2.2.2.1 x.2.2.2.2.2.1 x.2.2.2.2.2.2).mono fun _ _ h => h.told
  have mn : nm ≤ cm := by rw [hm]; exact hI.1
  have mc : cm ≤ 9223372036854775807 := hI.2.1
  obtain ⟨m, hm20⟩ : ∃ m, m = min nm 20 := ⟨_, rfl⟩
  have rm := min_run (x := (nm : Int)) (y := 20) (z := (m : Int)) (by omega)
  have hmc : (m : Int) ≤ cm := by omega
  have hm2 : m ≤ 20 := by omega
  obtain ⟨ks, hks⟩ : ∃ ks, ks = ms.take m := ⟨_, rfl⟩
  have EK : Hid (m = ks.length) := by show _ = _; rw [hks, List.length_take, ← hm]; omega
  have RK : Hid (IsI w am cm ks) := by rw [hks]; exact hI.take m
  obtain ⟨rP, hrP⟩ : ∃ x, x = checkP (rightW bs ns ps root gen) ns (treeS ns ps root gen) ks := ⟨_, rfl⟩
  obtain ⟨rH, hrH⟩ : ∃ x, x = checkH (rightW bs ns ps root gen) ns (treeS ns ps root gen) ks := ⟨_, rfl⟩
  obtain ⟨rB, hrB⟩ : ∃ x, x = checkB (rightW bs ns ps root gen) ns (treeS ns ps root gen) ks := ⟨_, rfl⟩
  obtain ⟨rE, hrE⟩ : ∃ x, x = checkE (rightW bs ns ps root gen) ns (treeS ns ps root gen) ks := ⟨_, rfl⟩
  have cC : ∀ V, Below w.heap.size w V → WoodIn V w.heap.size a n c a' n' c' b p f bs ns ps root gen → Calls Try.prog 9 #[.agg #[.slice a n c, .slice a' n' c', .slice b p f, .int .i64 root, .int .i64 gen], .slice am m cm] V fun x w' => x = .returned (.tuple #[.agg #[.int .i64 rP, .int .i64 rH, .int .i64 rB], .int .i64 rE]) ∧ Below V.heap.size V w' := fun V hV x => by
    rw [hrP, hrH, hrB, hrE]
    exact check_in x am cm m ks EK.out (RK.out.below hV)
  have cD : ∀ V, Below w.heap.size w V → WoodIn V w.heap.size a n c a' n' c' b p f bs ns ps root gen → Calls Try.prog 10 #[.agg #[.slice a n c, .slice a' n' c', .slice b p f, .int .i64 root, .int .i64 gen], .slice am m cm] V fun x w' => x = .returned (.tuple #[.agg #[.int .i64 rP, .int .i64 rH, .int .i64 rB], .int .i64 rE]) ∧ Below V.heap.size V w' := fun V hV x => by
    rw [hrP, hrH, hrB, hrE]
    exact refCheck_any a a' b n c n' c' p f bs ns ps root gen am cm m ks V x.2.1 x.2.2.1 x.2.2.2.1 EK.out x.2.2.2.2.1 x.2.2.2.2.2.1 x.2.2.2.2.2.2 (RK.out.below hV) (by omega)
  obtain ⟨x0, x1, x2, x3, x4⟩ := hW ▸ WI.1
  clear hn hn' hp hm hB hB' hP hI heB hLB hrP hrH hrB hrE hks hm20
  cases hs : (decide (n' ≤ 300) && decide (p ≤ 300)) with
  | false =>
    have cS : ∀ V, Calls Try.prog 5 #[.agg #[.slice a n c, .slice a' n' c', .slice b p f, .int .i64 root, .int .i64 gen]] V fun e w' => e = .returned (.bool false) ∧ Below V.heap.size V w' := fun V => by have := cS0 V; rw [hs] at this; exact this
    clear cS0 hs cB cR cC cD
    go_enter Try.func3, Try.ntmps3
    go_wp2_with (first
        | (go_at_call 5; rw [← hW]; refine (cS _).mono ?_; rintro y w1 ⟨rfl, hb⟩; replace WI := WI.below hb; replace HB := Below.tr HB hb; clear x0 x1 x2 x3 x4; obtain ⟨x0, x1, x2, x3, x4⟩ := WI.1; clear hb)
        | (go_at_call 6; refine (cA _).mono ?_; rintro y w5 ⟨rfl, hb⟩; replace HB := Below.tr HB hb; clear hb))
    go_ret
    exact ⟨rfl, HB⟩
  | true =>
    have cS : ∀ V, Calls Try.prog 5 #[.agg #[.slice a n c, .slice a' n' c', .slice b p f, .int .i64 root, .int .i64 gen]] V fun e w' => e = .returned (.bool true) ∧ Below V.heap.size V w' := fun V => by have := cS0 V; rw [hs] at this; exact this
    clear cS0 hs
    go_enter Try.func3, Try.ntmps3
    go_wp2_with (first
        | (go_at_call 5; rw [← hW]; refine (cS _).mono ?_; rintro y w1 ⟨rfl, hb⟩; replace WI := WI.below hb; replace HB := Below.tr HB hb; clear x0 x1 x2 x3 x4; obtain ⟨x0, x1, x2, x3, x4⟩ := WI.1; clear hb)
        | (go_at_call 7; refine (cB _ WI).mono ?_; rintro y w2 ⟨qa, N, da, rfl, eN, ia, -, hb⟩; have EN : Hid (N = LB.length) := eN; have IA : Hid (IsI w2 qa da LB) := ia; replace WI := WI.below hb; replace HB := Below.tr HB hb; clear x0 x1 x2 x3 x4 eN ia; obtain ⟨x0, x1, x2, x3, x4⟩ := WI.1; clear hb)
        | (go_at_call 8; refine (cR _ WI).mono ?_; rintro y w3 ⟨qb, N', db, rfl, eN, ib, -, hb⟩; obtain rfl : N' = N := eN.trans EN.out.symm; replace IA : Hid (IsI w3 qa da LB) := IA.out.below hb; have IB : Hid (IsI w3 qb db LB) := ib; replace WI := WI.below hb; replace HB := Below.tr HB hb; clear x0 x1 x2 x3 x4 eN ib; obtain ⟨x0, x1, x2, x3, x4⟩ := WI.1; clear hb)
        | (go_at_call 6; refine (cA _).mono ?_; rintro y w5 ⟨rfl, hb⟩; replace IA : Hid (IsI w5 qa da LB) := IA.out.below hb; replace IB : Hid (IsI w5 qb db LB) := IB.out.below hb; replace WI := WI.below hb; replace HB := Below.tr HB hb; clear x0 x1 x2 x3 x4 hb))
    have HW5 : Hid (WoodIn w5 w.heap.size a n c a' n' c' b p f bs ns ps root gen) := WI
    have mN : N' ≤ 9223372036854775807 := by rw [EN.out]; exact Nat.le_trans IA.out.1 IA.out.2.1
    clear WI
    go_loopw [49] (fun v wr => ∃ j : Nat, j ≤ N' ∧ v = .int .i64 j ∧ Below w5.heap.size w5 wr) (fun v _ => N' - (intOf v).toNat)
    case atStart => exact ⟨0, by omega, rfl, Below.refl _ _⟩
    case round =>
      obtain ⟨j, hj, rfl, HB2⟩ := hrel
      by_cases hlt : j < N'
      · have hlt' : (j : Int) < N' := by omega
        obtain ⟨x, hx⟩ : ∃ x, Hid (LB[j]? = some x) := get_some (by rw [← EN.out]; exact hlt)
        obtain ⟨b1, o1, rfl, -, hc1⟩ := IA.out.2.2 j x hx.out
        obtain ⟨b2, o2, rfl, -, hc2⟩ := IB.out.2.2 j x hx.out
        have z1 := cell_below HB2 hc1
        have z2 := cell_below HB2 hc2
        have hxx : (x != x) = false := by simp
        clear hc1 hc2
        go_wp2
        go_quiet (fail)
        have HBq : Below wr.heap.size wr (wr.drewN nq) := drewM_below wr nq
        generalize wr.drewN nq = wz at HBq ⊢
        go_wp2
        go_roundw
        case rel => exact ⟨j + 1, by omega, by go_num, Below.tr HB2 HBq⟩
        case measure => simp [intOf]; omega
      · obtain rfl : N' = j := by omega
        have hj0 : ¬ (N' : Int) < N' := by omega
        have WI := HW5.out.below HB2
        replace HB := Below.tr HB HB2
        obtain ⟨x0, x1, x2, x3, x4⟩ := WI.1
        clear HW5 IA IB EN HB2 cA cB cR cS
        go_wp2_with (first
          | (go_at_call 9; refine (cC _ HB WI).mono ?_; rintro y w6 ⟨rfl, hb⟩; have hA := (Below.refl w6.heap.size w6).alloc (Nat.le_refl _) (.cells #[.int .i64 rP, .int .i64 rH, .int .i64 rB] 35); have BX := box3_new w6 (.int .i64 rP) (.int .i64 rH) (.int .i64 rB) 35; replace WI := (WI.below hb).below hA; replace HB := Below.tr (Below.tr HB hb) hA; clear x0 x1 x2 x3 x4; obtain ⟨x0, x1, x2, x3, x4⟩ := WI.1; obtain ⟨⟨g0, g1, g2⟩, -⟩ := id BX; clear hb hA)
          | (go_at_call 10; refine (cD _ HB WI).mono ?_; rintro y w7 ⟨rfl, hb⟩; have hA := (Below.refl w7.heap.size w7).alloc (Nat.le_refl _) (.cells #[.int .i64 rP, .int .i64 rH, .int .i64 rB] 35); have BY := box3_new w7 (.int .i64 rP) (.int .i64 rH) (.int .i64 rB) 35; replace BX := (BX.below hb).below hA; replace HB := Below.tr (Below.tr HB hb) hA; clear x0 x1 x2 x3 x4 g0 g1 g2; obtain ⟨⟨g0, g1, g2⟩, -⟩ := id BX; obtain ⟨⟨y0, y1, y2⟩, -⟩ := id BY; clear hb hA))
        go_ret
        exact ⟨rfl, HB⟩

end Go.Proofs.Ytpepgpjiddophaa

