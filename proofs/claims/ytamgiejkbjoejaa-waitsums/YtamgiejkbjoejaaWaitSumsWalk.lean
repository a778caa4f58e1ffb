/-
  The walk of the law WaitSums: it returns true at all arguments.
-/
import Derived.Test.YtamgiejkbjoejaaWaitOwn
import Derived.Test.YtamgiejkbjoejaaAnychain
import Derived.Deep.RegionHeld3
namespace Go.Proofs.Ytamgiejkbjoejaa
open Go.RowKit Plain Anylast
set_option linter.unusedVariables false

def numV (x : Int) : Value := .int .i64 x

theorem isI_drop {w : World} {a : Option Addr} {c k : Nat} {l : List Int} (h : IsI w a c l) (hk : k ≤ l.length) : IsI w (a.map fun x => x.add k) (c - k) (l.drop k) := by
  refine ⟨by rw [List.length_drop]; have := h.1; omega, by have := h.2.1; omega, fun j x hx => ?_⟩
  rw [List.getElem?_drop] at hx
  obtain ⟨b, o, rfl, hb, hc⟩ := h.2.2 (k + j) x hx
  exact ⟨b, o + k, by rw [Option.map_some, at_add], hb, by rw [Nat.add_assoc]; exact hc⟩

theorem isI_end {w : World} {a : Option Addr} {c : Nat} {l : List Int} (h : IsI w a c l) (hk : l.length = c) : IsI w a 0 (l.drop c) := by
  rw [List.drop_of_length_le (by omega)]
  exact ⟨Nat.le_refl _, Nat.zero_le _, fun j x hx => by simp at hx⟩

theorem isI_cells {w : World} {ad : Addr} {c : Nat} {l : List Int} (h : IsI w (some ad) c l) : ∀ j u, (l.map numV)[j]? = some u → w.cell? (ad.add j) = some u := by
  intro j u hj
  rw [List.getElem?_map] at hj
  obtain ⟨x, hx, rfl⟩ := Option.map_eq_some_iff.1 hj
  obtain ⟨b', o', ha, _, hc⟩ := h.2.2 j x hx
  cases ha
  rw [at_add]
  exact hc

/-- A row of numbers of the call's own, at its block. -/
def OwnI (w : World) (base g m cap : Nat) (l : List Int) : Prop := w.ownsRow base 3 1 (.slice (some ⟨g, 0, none⟩) m cap) m (l.map numV)

theorem OwnI.isI {w : World} {base g m cap : Nat} {l : List Int} (h : OwnI w base g m cap l) (hl : l.length = m) : IsI w (some ⟨g, 0, none⟩) cap l := by
  subst hl
  rcases h.2 with ⟨e, _⟩ | ⟨g', cap', cur, e, _, hcur, hnc, hcm, hsz, htk⟩
  · cases e
  · cases e
    refine ⟨hnc, hcm, fun j m hj => ⟨g, 0, rfl, (Array.getElem?_eq_some_iff.1 hcur).1, ?_⟩⟩
    rw [Nat.zero_add, Joins.cell_of_block hcur]
    have hj' := (List.getElem?_eq_some_iff.1 hj).1
    rw [← Array.getElem?_toList]
    have : (cur.toList.take (l.length * 1))[j]? = some (.int .i64 m) := by rw [htk, List.getElem?_map, hj]; rfl
    rwa [List.getElem?_take_of_lt (by omega)] at this

/-- 'append(x, l...)', x a row of the call's own. -/
theorem appI (W : World) (base g0 m c0 : Nat) (xs : List Int) (a : Option Addr) (c n : Nat) (l : List Int) (hn : n = l.length) (own : OwnI W base g0 m c0 xs) (hI : IsI W a c l) (hb : base ≤ W.heap.size) (hs : m + n ≤ 4096) :
    ∃ g cap w', (Builtin.append_ #[25, 25] 25 #[.slice (some ⟨g0, 0, none⟩) m c0, .slice a n c]).run Try.prog W = .ok (.slice (some ⟨g, 0, none⟩) (m + n) cap) w' ∧ OwnI w' base g (m + n) cap (xs ++ l) ∧ Below base W w' := by
  subst hn
  obtain ⟨i0, hi, hz0, hz1, hz2⟩ := info_parts Try.info3
  unfold OwnI at *
  cases a with
  | none =>
    have h0 : l = [] := by
      rcases Nat.eq_zero_or_pos l.length with h | h
      · exact List.length_eq_zero_iff.1 h
      · obtain ⟨b, o, hh, _⟩ := hI.2.2 0 _ (List.getElem?_eq_getElem h)
        cases hh
    subst h0
    refine ⟨g0, c0, W, ?_, by simpa using own, Below.refl _ _⟩
    rcases own.2 with ⟨h, _⟩ | ⟨g, cap, cur, h, _, _, hnc, _⟩
    · cases h
    · cases h
      simp [Builtin.append_, run_underlying Try.underlying25, sizeOf, typeInfo, hi, Builtin.lenOf, Builtin.firstCells, hnc, storeCells]
  | some ad =>
    obtain ⟨v', w', hr, h2, h3, h4⟩ := run_append_own (P := Try.prog) W base 25 25 3 i0 _ 1 8 Try.underlying25 hi hz0 hz1 hz2 rfl (by decide) _ m _ own ad l.length c (l.map numV) (by simp) (isI_cells hI)
      (fun u hu => by obtain ⟨x, _, rfl⟩ := List.mem_map.1 hu; rfl) (by have := hI.1; have := hI.2.1; unfold maxLen at *; omega) (by omega) hb
    rcases h2.2 with ⟨h, _⟩ | ⟨g, cap, cur, h, _⟩
    · exact absurd (h4.1 h).1 (by simp)
    · subst h
      have hlt : base ≤ g0 := (own.lt g0 rfl).1
      exact ⟨g, cap, w', hr, by rw [List.map_append]; exact h2, (Below.refl base W).grown h3 hb (by intro k hk; simp [Value.ownBlock] at hk; omega)⟩

def turnW (H : Nat) (a : Option Addr) (n c k : Nat) (a2 : Option Addr) (n2 c2 : Nat) (g1 cap1 g2 cap2 : Nat) : Nat → Value
  | 0 => .slice (some ⟨H, 0, none⟩) 0 0
  | 1 => .slice a n c
  | 2 => .int .i64 k
  | 3 => .slice a2 n2 c2
  | 4 => .slice (some ⟨g1, 0, none⟩) n2 cap1
  | 5 => .slice a n c
  | 6 => .int .i64 k
  | 7 => .slice a k c
  | 8 => .slice (some ⟨g2, 0, none⟩) n cap2
  | 9 => .slice (some ⟨g2, 0, none⟩) n cap2
  | _ => undef

def worldsW (w0 w1 w2 w3 : World) : Nat → World
  | 0 => w0
  | 1 => w1
  | 2 => w2
  | _ => w3

theorem place_of (z : Int) (n : Nat) (hn : n ≤ 40) : ∃ (r : Int) (t : Nat), z.tmod ((n : Int) + 1) = r ∧ -(n : Int) - 1 < r ∧ r < (n : Int) + 1 ∧ (r + n + 1).tmod ((n : Int) + 1) = t ∧ t ≤ n := by
  have h0 : (0 : Int) < (n : Int) + 1 := by omega
  have h1 := Int.tmod_lt_of_pos z h0
  have h2 : -((n : Int) + 1) < z.tmod ((n : Int) + 1) := by
    have := Int.tmod_lt_of_pos (-z) h0
    rw [Int.neg_tmod] at this
    omega
  have h3 := Int.tmod_lt_of_pos (z.tmod ((n : Int) + 1) + n + 1) h0
  have h4 : 0 ≤ (z.tmod ((n : Int) + 1) + n + 1).tmod ((n : Int) + 1) := Int.tmod_nonneg _ (by omega)
  exact ⟨_, ((z.tmod ((n : Int) + 1) + n + 1).tmod ((n : Int) + 1)).toNat, rfl, by omega, h1, by omega, by omega⟩

set_option maxRecDepth 20000 in
set_option maxHeartbeats 2000000 in
theorem waitSums_walk (now : Int) (a : Option Addr) (c : Nat) (ps : List Int) (z : Int) (w : World) (wn : (Lit.int .i64 now).wf = true) (hI : IsI w a c ps) (wz : (Lit.int .i64 z).wf = true) :
    Calls Try.prog 6 #[.int .i64 now, .slice a ps.length c, .int .i64 z] w fun e w' => e = .returned (.bool true) ∧ Below w.heap.size w w' := by
  have hz : -9223372036854775808 ≤ z ∧ z ≤ 9223372036854775807 := by simpa [Lit.wf, IntKind.min, IntKind.max, IntKind.signed, IntKind.bits] using wz
  clear wn wz
  have hI2 := hI.take 40
  obtain ⟨N, hl⟩ : ∃ n, n = ps.length := ⟨_, rfl⟩
  rw [← hl]
  obtain ⟨n, hk⟩ : ∃ k : Nat, k = min N 40 := ⟨_, rfl⟩
  have HL : Hid (n = (ps.take 40).length) := by show _ = _; rw [List.length_take, hk, hl]; omega
  have hmr := min_run (x := (N : Int)) (y := 40) (z := (n : Int)) (by omega)
  have hnc : N ≤ c := by rw [hl]; exact hI.1
  have hcm : c ≤ 9223372036854775807 := hI.2.1
  have hkn : n ≤ N := by omega
  have hn40 : n ≤ 40 := by omega
  clear hI hl hk
  generalize ps.take 40 = qs at *
  obtain ⟨r, k, e1, b1, b2, e2, b3⟩ := place_of z n hn40
  obtain ⟨A, hA⟩ : ∃ A, A = untF now qs := ⟨_, rfl⟩
  have hAb := untF_bound now qs
  rw [← hA] at hAb
  obtain ⟨n1, hn1⟩ : ∃ n1, n1 = max now 0 := ⟨_, rfl⟩
  obtain ⟨n2, hn2⟩ : ∃ n2, n2 = min n1 1099511627776 := ⟨_, rfl⟩
  have r1 := max_run hn1.symm
  have r2 := min_run hn2.symm
  have hA2 : n2 ≤ A := by rw [hn2, hn1, hA]; exact untF_now now qs
  clear hn1 hn2
  have cU : ∀ W, IsI W a c qs → Calls Try.prog 13 #[.int .i64 now, .slice a n c] W fun e w' => e = .returned (.int .i64 A) ∧ W = w' := fun W h => by rw [hA]; exact waitUntil_any now a c n qs W h HL.out
  have cT : ∀ W g cap, IsI W (some ⟨g, 0, none⟩) cap (qs.drop k ++ qs.take k) → Calls Try.prog 13 #[.int .i64 now, .slice (some ⟨g, 0, none⟩) n cap] W fun e w' => e = .returned (.int .i64 A) ∧ W = w' := fun W g cap h => by
    rw [hA, ← untF_turned now qs k]
    exact waitUntil_any now _ cap n _ W h (by rw [HL.out]; simp; omega)
  obtain ⟨F, hF⟩ : ∃ F, F = untF now (qs.take k) := ⟨_, rfl⟩
  have hkl : k ≤ qs.length := by rw [← HL.out]; exact b3
  have cF : ∀ W, IsI W a c qs → Calls Try.prog 13 #[.int .i64 now, .slice a k c] W fun e w' => e = .returned (.int .i64 F) ∧ W = w' := fun W h => by rw [hF]; exact waitUntil_any now a c k _ W (h.take k) (by rw [List.length_take]; omega)
  have HP : Hid (∀ j x, qs[j]? = some x → min x 1099511627776 ≤ A) := fun j x h => by rw [hA]; exact untF_part now h
  by_cases hc : k = c
  · subst hc
    obtain rfl : n = k := by omega
    have cR : ∀ W, IsI W a n qs → Calls Try.prog 13 #[.int .i64 F, .slice (a) 0 0] W fun e w' => e = .returned (.int .i64 A) ∧ W = w' := fun W h => by
      rw [hF, hA, ← untF_parts now qs n]
      exact waitUntil_any _ _ _ _ _ W ((fun h => isI_end h HL.out.symm) h) (by rw [List.length_drop, ← HL.out]; omega)
    obtain ⟨i0, hi, hz0, hz1, hz2⟩ := info_parts Try.info3
    have own0 : OwnI (w.drew.alloc (.cells #[] 3)) w.heap.size w.heap.size 0 0 [] := World.ownsRow_made w.drew #[] 0 (Nat.le_refl _) (Nat.zero_le _) rfl
    have b0 : Below w.heap.size w (w.drew.alloc (.cells #[] 3)) := (Below.drew (Below.refl _ _)).alloc (by simp) _
    obtain ⟨g1, cap1, w1, hrun4, own1, b4⟩ := appI _ w.heap.size w.heap.size 0 0 [] (a) 0 0 (qs.drop n) (by rw [List.length_drop, ← HL.out]; omega) own0 ((fun h => isI_end h HL.out.symm) (hI2.below b0)) b0.size (by omega)
    have bb1 := b0.trans b4
    rw [Nat.zero_add] at hrun4 own1
    obtain ⟨g2, cap2, w2, hrun8, own2, b8⟩ := appI w1 w.heap.size g1 0 cap1 _ a n n (qs.take n) (by rw [List.length_take]; omega) own1 ((hI2.below bb1).take n) bb1.size (by omega)
    have bb2 := bb1.trans b8
    have hI6 := hI2.below bb2
    rw [List.nil_append, show 0 + n = n by omega] at own2
    rw [show 0 + n = n by omega] at hrun8
    have hJ := own2.isI (by rw [List.length_append, List.length_drop, List.length_take, ← HL.out]; omega)
    clear own0 own1 own2 hA hF b0 b4 b8 bb1 hkl hz0 hz1 hz2 hi
    go_enter Try.func6, Try.ntmps6
    go_wp2_with (go_at_call 13; refine (cU _ hI2).mono ?_; rintro e w' ⟨rfl, rfl⟩)
    refine region_worlds (by kernel_rfl) [0, 4, 8] (turnW w.heap.size a n n n (a) 0 0 g1 cap1 g2 cap2) (worldsW w.drew (w.drew.alloc (.cells #[] 3)) w1 w2) (by kernel_rfl) (by kernel_rfl) rfl ?step 10 rfl ?done
    case step =>
      intro i o ho kk a2 hkk hmay hdf hsz hdep hsame
      match i, ho with
      | 0, ho =>
        cases ho
        match kk, hkk, hmay with
        | 0, _, _ => exact val_op rfl (wanted_free rfl) (by clear hdep hsame hsz hdf; (try simp only [turnW, worldsW]); go_simp) rfl rfl
        | 1, _, hq => cases hq
        | 2, _, hq => cases hq
        | 3, _, hq => cases hq
        | kk + 4, hkk, _ => simp at hkk
      | 1, ho =>
        cases ho
        have h1 := (hsame 1 rfl)
        exact val_op rfl (wanted_free rfl) (by clear hdep hsame hsz hdf; (try simp only [turnW, worldsW]); go_simp) rfl rfl
      | 2, ho =>
        cases ho
        have h2 := (hsame 2 rfl)
        exact val_op rfl (wanted_free rfl) (by clear hdep hsame hsz hdf; (try simp only [turnW, worldsW]); go_simp) rfl rfl
      | 3, ho =>
        cases ho
        have h33 := (hdep 1 _ 33 rfl rfl rfl)
        have h34 := (hdep 2 _ 34 rfl rfl rfl)
        simp only [turnW] at h33 h34
        match kk, hkk, hmay with
        | 0, _, hq => first | (cases hq; done) | (exact val_op rfl (wanted_free rfl) (by clear hdep hsame hsz hdf; (try simp only [turnW, worldsW]); go_simp) rfl rfl)
        | 1, _, hq => first | (cases hq; done) | (exact val_op rfl (wanted_free rfl) (by clear hdep hsame hsz hdf; (try simp only [turnW, worldsW]); go_simp) rfl rfl)
        | 2, _, hq => first | (cases hq; done) | (exact val_op rfl (wanted_free rfl) (by clear hdep hsame hsz hdf; (try simp only [turnW, worldsW]); go_simp) rfl rfl)
        | 3, _, hq => first | (cases hq; done) | (exact val_op rfl (wanted_free rfl) (by clear hdep hsame hsz hdf; (try simp only [turnW, worldsW]); go_simp) rfl rfl)
        | kk + 4, hkk, _ => simp at hkk
      | 4, ho =>
        cases ho
        have h32 := eval_tmp (hdep 0 _ 32 rfl rfl rfl)
        have h35 := eval_tmp (hdep 3 _ 35 rfl rfl rfl)
        simp only [turnW] at h32 h35
        match kk, hkk, hmay with
        | 0, _, hq => cases hq
        | 1, _, _ => exact val_append rfl (wanted_free rfl) rfl h32 h35 hrun4 rfl rfl
        | 2, _, hq => cases hq
        | 3, _, hq => cases hq
        | kk + 4, hkk, _ => simp at hkk
      | 5, ho =>
        cases ho
        have h1 := (hsame 1 rfl)
        exact val_op rfl (wanted_free rfl) (by clear hdep hsame hsz hdf; (try simp only [turnW, worldsW]); go_simp) rfl rfl
      | 6, ho =>
        cases ho
        have h2 := (hsame 2 rfl)
        exact val_op rfl (wanted_free rfl) (by clear hdep hsame hsz hdf; (try simp only [turnW, worldsW]); go_simp) rfl rfl
      | 7, ho =>
        cases ho
        have h37 := (hdep 5 _ 37 rfl rfl rfl)
        have h38 := (hdep 6 _ 38 rfl rfl rfl)
        simp only [turnW] at h37 h38
        match kk, hkk, hmay with
        | 0, _, hq => first | (cases hq; done) | (exact val_op rfl (wanted_free rfl) (by clear hdep hsame hsz hdf; (try simp only [turnW, worldsW]); go_simp) rfl rfl)
        | 1, _, hq => first | (cases hq; done) | (exact val_op rfl (wanted_free rfl) (by clear hdep hsame hsz hdf; (try simp only [turnW, worldsW]); go_simp) rfl rfl)
        | 2, _, hq => first | (cases hq; done) | (exact val_op rfl (wanted_free rfl) (by clear hdep hsame hsz hdf; (try simp only [turnW, worldsW]); go_simp) rfl rfl)
        | 3, _, hq => first | (cases hq; done) | (exact val_op rfl (wanted_free rfl) (by clear hdep hsame hsz hdf; (try simp only [turnW, worldsW]); go_simp) rfl rfl)
        | kk + 4, hkk, _ => simp at hkk
      | 8, ho =>
        cases ho
        have h36 := eval_tmp (hdep 4 _ 36 rfl rfl rfl)
        have h39 := eval_tmp (hdep 7 _ 39 rfl rfl rfl)
        simp only [turnW] at h36 h39
        match kk, hkk, hmay with
        | 0, _, hq => cases hq
        | 1, _, hq => cases hq
        | 2, _, _ => exact val_append rfl (wanted_free rfl) rfl h36 h39 hrun8 rfl rfl
        | 3, _, hq => cases hq
        | kk + 4, hkk, _ => simp at hkk
      | 9, ho =>
        cases ho
        have h40 := (hdep 8 _ 40 rfl rfl rfl)
        simp only [turnW] at h40
        exact val_op rfl (wanted_free rfl) (by clear hdep hsame hsz hdf; (try simp only [turnW, worldsW]); go_simp) rfl rfl
      | kk + 10, ho => simp at ho
    case done =>
      simp [filledN, turnW, worldsW]
      clear hrun4 hrun8 hI2 cU
      have b0k : (0 : Int) ≤ n := by omega
      have b4 : (n : Int) ≤ n := by omega
      have b5 : (n : Int) ≤ n := by omega
      have b6 : (n : Int) ≤ n := by omega
      have f1 : ((1099511627776 : Int) < A) = False := eq_false (by omega)
      have f2 : (A < n2) = False := eq_false (by omega)
      clear hAb hA2
      go_wp2
      have t1 := trivial
      have t2 := trivial
      have HI6 : Hid (IsI w2 a n qs) := hI6
      have HJ6 : Hid (IsI w2 (some ⟨g2, 0, none⟩) cap2 (qs.drop n ++ qs.take n)) := hJ
      clear hI6 hJ
      go_region_held3 (fun V => IsI V a n qs ∧ IsI V (some ⟨g2, 0, none⟩) cap2 (qs.drop n ++ qs.take n)) (exact ⟨HI6.out.below ((Below.refl _ _).drew), HJ6.out.below ((Below.refl _ _).drew)⟩) (first
        | (go_at_call 8; refine (alive17_any _).mono ?_; rintro e w' ⟨rfl, rfl⟩)
        | (have _t := t1; go_at_call 13; refine (cT _ _ _ (by assumption)).mono ?_; clear t1 _t; rintro e w' ⟨rfl, rfl⟩)
        | (have _t := t2; go_at_call 13; refine (cF _ (by assumption)).mono ?_; clear t2 _t; rintro e w' ⟨rfl, rfl⟩)
        | (go_at_call 13; refine (cR _ (by assumption)).mono ?_; rintro e w' ⟨rfl, rfl⟩))
      have hIw := HI6.out.below ((Below.refl w2.heap.size w2).drew)
      have hBw : Below w.heap.size w w2.drew := bb2.drew
      clear cT cF cR HI6 HJ6 f1 f2 bb2
      generalize w2.drew = V at *
      go_wp2
      go_loop [76] (fun v => ∃ j : Nat, j ≤ n ∧ v = .int .i64 j) (fun v => n - (intOf v).toNat)
      case atStart => exact ⟨0, by omega, rfl⟩
      case round =>
        obtain ⟨j, hj, rfl⟩ := hrel
        by_cases hlt : j < n
        · have hlt' : (j : Int) < n := by omega
          obtain ⟨x, hx⟩ : ∃ x, qs[j]? = some x := ⟨_, List.getElem?_eq_getElem (by rw [← HL.out]; exact hlt)⟩
          obtain ⟨b, o, rfl, -, hc⟩ := hIw.2.2 j x hx
          have hle := HP.out j x hx
          obtain ⟨m, hm⟩ : ∃ m, m = min x 1099511627776 := ⟨_, rfl⟩
          rw [← hm] at hle
          have hmm := min_run hm.symm
          clear hm hx
          go_wp2
          go_round
          case rel => exact ⟨j + 1, by omega, by go_num⟩
          case measure => simp [intOf]; omega
        · obtain rfl : j = n := by omega
          go_wp2
          go_ret
          exact ⟨rfl, hBw⟩
  · have hck : ¬ c = k := fun h => hc h.symm
    have hmk : n - k + k = n := by omega
    have hcl : ¬ c < k := by omega
    have cR : ∀ W, IsI W a c qs → Calls Try.prog 13 #[.int .i64 F, .slice (a.map fun q => q.add k) (n - k) (c - k)] W fun e w' => e = .returned (.int .i64 A) ∧ W = w' := fun W h => by
      rw [hF, hA, ← untF_parts now qs k]
      exact waitUntil_any _ _ _ _ _ W ((fun h => isI_drop h hkl) h) (by rw [List.length_drop, ← HL.out]; skip)
    obtain ⟨i0, hi, hz0, hz1, hz2⟩ := info_parts Try.info3
    have own0 : OwnI (w.drew.alloc (.cells #[] 3)) w.heap.size w.heap.size 0 0 [] := World.ownsRow_made w.drew #[] 0 (Nat.le_refl _) (Nat.zero_le _) rfl
    have b0 : Below w.heap.size w (w.drew.alloc (.cells #[] 3)) := (Below.drew (Below.refl _ _)).alloc (by simp) _
    obtain ⟨g1, cap1, w1, hrun4, own1, b4⟩ := appI _ w.heap.size w.heap.size 0 0 [] (a.map fun q => q.add k) (c - k) (n - k) (qs.drop k) (by rw [List.length_drop, ← HL.out]; skip) own0 ((fun h => isI_drop h hkl) (hI2.below b0)) b0.size (by omega)
    have bb1 := b0.trans b4
    rw [Nat.zero_add] at hrun4 own1
    obtain ⟨g2, cap2, w2, hrun8, own2, b8⟩ := appI w1 w.heap.size g1 (n - k) cap1 _ a c k (qs.take k) (by rw [List.length_take]; omega) own1 ((hI2.below bb1).take k) bb1.size (by omega)
    have bb2 := bb1.trans b8
    have hI6 := hI2.below bb2
    rw [List.nil_append, show (n - k) + k = n by omega] at own2
    rw [show (n - k) + k = n by omega] at hrun8
    have hJ := own2.isI (by rw [List.length_append, List.length_drop, List.length_take, ← HL.out]; omega)
    clear own0 own1 own2 hA hF b0 b4 b8 bb1 hkl hz0 hz1 hz2 hi
    go_enter Try.func6, Try.ntmps6
    go_wp2_with (go_at_call 13; refine (cU _ hI2).mono ?_; rintro e w' ⟨rfl, rfl⟩)
    refine region_worlds (by kernel_rfl) [0, 4, 8] (turnW w.heap.size a n c k (a.map fun q => q.add k) (n - k) (c - k) g1 cap1 g2 cap2) (worldsW w.drew (w.drew.alloc (.cells #[] 3)) w1 w2) (by kernel_rfl) (by kernel_rfl) rfl ?step 10 rfl ?done
    case step =>
      intro i o ho kk a2 hkk hmay hdf hsz hdep hsame
      match i, ho with
      | 0, ho =>
        cases ho
        match kk, hkk, hmay with
        | 0, _, _ => exact val_op rfl (wanted_free rfl) (by clear hdep hsame hsz hdf; (try simp only [turnW, worldsW]); go_simp) rfl rfl
        | 1, _, hq => cases hq
        | 2, _, hq => cases hq
        | 3, _, hq => cases hq
        | kk + 4, hkk, _ => simp at hkk
      | 1, ho =>
        cases ho
        have h1 := (hsame 1 rfl)
        exact val_op rfl (wanted_free rfl) (by clear hdep hsame hsz hdf; (try simp only [turnW, worldsW]); go_simp) rfl rfl
      | 2, ho =>
        cases ho
        have h2 := (hsame 2 rfl)
        exact val_op rfl (wanted_free rfl) (by clear hdep hsame hsz hdf; (try simp only [turnW, worldsW]); go_simp) rfl rfl
      | 3, ho =>
        cases ho
        have h33 := (hdep 1 _ 33 rfl rfl rfl)
        have h34 := (hdep 2 _ 34 rfl rfl rfl)
        simp only [turnW] at h33 h34
        match kk, hkk, hmay with
        | 0, _, hq => first | (cases hq; done) | (exact val_op rfl (wanted_free rfl) (by clear hdep hsame hsz hdf; (try simp only [turnW, worldsW]); go_simp) rfl rfl)
        | 1, _, hq => first | (cases hq; done) | (exact val_op rfl (wanted_free rfl) (by clear hdep hsame hsz hdf; (try simp only [turnW, worldsW]); go_simp) rfl rfl)
        | 2, _, hq => first | (cases hq; done) | (exact val_op rfl (wanted_free rfl) (by clear hdep hsame hsz hdf; (try simp only [turnW, worldsW]); go_simp) rfl rfl)
        | 3, _, hq => first | (cases hq; done) | (exact val_op rfl (wanted_free rfl) (by clear hdep hsame hsz hdf; (try simp only [turnW, worldsW]); go_simp) rfl rfl)
        | kk + 4, hkk, _ => simp at hkk
      | 4, ho =>
        cases ho
        have h32 := eval_tmp (hdep 0 _ 32 rfl rfl rfl)
        have h35 := eval_tmp (hdep 3 _ 35 rfl rfl rfl)
        simp only [turnW] at h32 h35
        match kk, hkk, hmay with
        | 0, _, hq => cases hq
        | 1, _, _ => exact val_append rfl (wanted_free rfl) rfl h32 h35 hrun4 rfl rfl
        | 2, _, hq => cases hq
        | 3, _, hq => cases hq
        | kk + 4, hkk, _ => simp at hkk
      | 5, ho =>
        cases ho
        have h1 := (hsame 1 rfl)
        exact val_op rfl (wanted_free rfl) (by clear hdep hsame hsz hdf; (try simp only [turnW, worldsW]); go_simp) rfl rfl
      | 6, ho =>
        cases ho
        have h2 := (hsame 2 rfl)
        exact val_op rfl (wanted_free rfl) (by clear hdep hsame hsz hdf; (try simp only [turnW, worldsW]); go_simp) rfl rfl
      | 7, ho =>
        cases ho
        have h37 := (hdep 5 _ 37 rfl rfl rfl)
        have h38 := (hdep 6 _ 38 rfl rfl rfl)
        simp only [turnW] at h37 h38
        match kk, hkk, hmay with
        | 0, _, hq => first | (cases hq; done) | (exact val_op rfl (wanted_free rfl) (by clear hdep hsame hsz hdf; (try simp only [turnW, worldsW]); go_simp) rfl rfl)
        | 1, _, hq => first | (cases hq; done) | (exact val_op rfl (wanted_free rfl) (by clear hdep hsame hsz hdf; (try simp only [turnW, worldsW]); go_simp) rfl rfl)
        | 2, _, hq => first | (cases hq; done) | (exact val_op rfl (wanted_free rfl) (by clear hdep hsame hsz hdf; (try simp only [turnW, worldsW]); go_simp) rfl rfl)
        | 3, _, hq => first | (cases hq; done) | (exact val_op rfl (wanted_free rfl) (by clear hdep hsame hsz hdf; (try simp only [turnW, worldsW]); go_simp) rfl rfl)
        | kk + 4, hkk, _ => simp at hkk
      | 8, ho =>
        cases ho
        have h36 := eval_tmp (hdep 4 _ 36 rfl rfl rfl)
        have h39 := eval_tmp (hdep 7 _ 39 rfl rfl rfl)
        simp only [turnW] at h36 h39
        match kk, hkk, hmay with
        | 0, _, hq => cases hq
        | 1, _, hq => cases hq
        | 2, _, _ => exact val_append rfl (wanted_free rfl) rfl h36 h39 hrun8 rfl rfl
        | 3, _, hq => cases hq
        | kk + 4, hkk, _ => simp at hkk
      | 9, ho =>
        cases ho
        have h40 := (hdep 8 _ 40 rfl rfl rfl)
        simp only [turnW] at h40
        exact val_op rfl (wanted_free rfl) (by clear hdep hsame hsz hdf; (try simp only [turnW, worldsW]); go_simp) rfl rfl
      | kk + 10, ho => simp at ho
    case done =>
      simp [filledN, turnW, worldsW]
      clear hrun4 hrun8 hI2 cU
      have b0k : (0 : Int) ≤ k := by omega
      have b4 : (k : Int) ≤ n := by omega
      have b5 : (n : Int) ≤ c := by omega
      have b6 : (k : Int) ≤ c := by omega
      have f1 : ((1099511627776 : Int) < A) = False := eq_false (by omega)
      have f2 : (A < n2) = False := eq_false (by omega)
      clear hAb hA2
      go_wp2
      have t1 := trivial
      have t2 := trivial
      have HI6 : Hid (IsI w2 a c qs) := hI6
      have HJ6 : Hid (IsI w2 (some ⟨g2, 0, none⟩) cap2 (qs.drop k ++ qs.take k)) := hJ
      clear hI6 hJ
      go_region_held3 (fun V => IsI V a c qs ∧ IsI V (some ⟨g2, 0, none⟩) cap2 (qs.drop k ++ qs.take k)) (exact ⟨HI6.out.below ((Below.refl _ _).drew), HJ6.out.below ((Below.refl _ _).drew)⟩) (first
        | (go_at_call 8; refine (alive17_any _).mono ?_; rintro e w' ⟨rfl, rfl⟩)
        | (have _t := t1; go_at_call 13; refine (cT _ _ _ (by assumption)).mono ?_; clear t1 _t; rintro e w' ⟨rfl, rfl⟩)
        | (have _t := t2; go_at_call 13; refine (cF _ (by assumption)).mono ?_; clear t2 _t; rintro e w' ⟨rfl, rfl⟩)
        | (go_at_call 13; refine (cR _ (by assumption)).mono ?_; rintro e w' ⟨rfl, rfl⟩))
      have hIw := HI6.out.below ((Below.refl w2.heap.size w2).drew)
      have hBw : Below w.heap.size w w2.drew := bb2.drew
      clear cT cF cR HI6 HJ6 f1 f2 bb2
      generalize w2.drew = V at *
      go_wp2
      go_loop [76] (fun v => ∃ j : Nat, j ≤ n ∧ v = .int .i64 j) (fun v => n - (intOf v).toNat)
      case atStart => exact ⟨0, by omega, rfl⟩
      case round =>
        obtain ⟨j, hj, rfl⟩ := hrel
        by_cases hlt : j < n
        · have hlt' : (j : Int) < n := by omega
          obtain ⟨x, hx⟩ : ∃ x, qs[j]? = some x := ⟨_, List.getElem?_eq_getElem (by rw [← HL.out]; exact hlt)⟩
          obtain ⟨b, o, rfl, -, hc⟩ := hIw.2.2 j x hx
          have hle := HP.out j x hx
          obtain ⟨m, hm⟩ : ∃ m, m = min x 1099511627776 := ⟨_, rfl⟩
          rw [← hm] at hle
          have hmm := min_run hm.symm
          clear hm hx
          go_wp2
          go_round
          case rel => exact ⟨j + 1, by omega, by go_num⟩
          case measure => simp [intOf]; omega
        · obtain rfl : j = n := by omega
          go_wp2
          go_ret
          exact ⟨rfl, hBw⟩

end Go.Proofs.Ytamgiejkbjoejaa
