/-
  The walk of the law TaskLasts: it returns true at all arguments.
-/
import Derived.Test.YtnipikdlfmcheaaTaskActs
import Derived.Test.YtnipikdlfmcheaaTaskRight
import Derived.Test.YtnipikdlfmcheaaTaskRefRight
import Derived.Test.YtnipikdlfmcheaaTaskLease
import Derived.Test.YtnipikdlfmcheaaTaskExpire
namespace Go.Proofs.Ytnipikdlfmcheaa
open Go.RowKit Plain
set_option linter.unusedVariables false

theorem boxL_set5 {w : World} {h : Nat} {v0 v1 v2 v3 v4 : Value} (b : BoxL w h [v0, v1, v2, v3, v4]) (u0 u1 u2 u3 u4 : Value) :
    BoxL (((((w.setCell ⟨h, 0, none⟩ u0).setCell ⟨h, 1, none⟩ u1).setCell ⟨h, 2, none⟩ u2).setCell ⟨h, 3, none⟩ u3).setCell ⟨h, 4, none⟩ u4) h [u0, u1, u2, u3, u4] := ((((b.set 0 u0).set 1 u1).set 2 u2).set 3 u3).set 4 u4
theorem below_setT {n h : Nat} {w w1 : World} (hb : Below n w w1) (hh : n ≤ h) (u0 u1 u2 u3 u4 : Value) :
    Below n w (((((w1.setCell ⟨h, 0, none⟩ u0).setCell ⟨h, 1, none⟩ u1).setCell ⟨h, 2, none⟩ u2).setCell ⟨h, 3, none⟩ u3).setCell ⟨h, 4, none⟩ u4) :=
  ((((hb.setCell (p := ⟨h, 0, none⟩) hh u0).setCell (p := ⟨h, 1, none⟩) hh u1).setCell (p := ⟨h, 2, none⟩) hh u2).setCell (p := ⟨h, 3, none⟩) hh u3).setCell (p := ⟨h, 4, none⟩) hh u4
theorem boxL_off5 {w : World} {h k : Nat} {vs : List Value} (b : BoxL w h vs) (hn : h ≠ k) (u0 u1 u2 u3 u4 : Value) :
    BoxL (((((w.setCell ⟨k, 0, none⟩ u0).setCell ⟨k, 1, none⟩ u1).setCell ⟨k, 2, none⟩ u2).setCell ⟨k, 3, none⟩ u3).setCell ⟨k, 4, none⟩ u4) h vs := ((((b.off hn).off hn).off hn).off hn).off hn

set_option maxRecDepth 20000 in
set_option maxHeartbeats 16000000 in
theorem taskLasts_walk (ta : Option Addr) (tc : Nat) (ns : List Int) (tr0 wt le : Int) (ap : Option Addr) (cp : Nat) (xs : List (Int × Int)) (w : World) (hI : IsI w ta tc ns) (w1 : (Lit.int .i64 tr0).wf = true) (w2 : (Lit.int .i64 wt).wf = true) (w3 : (Lit.int .i64 le).wf = true) (hA : IsA w ap cp xs) :
    Calls Try.prog 8 #[.agg #[.slice ta ns.length tc, .int .i64 tr0, .int .i64 wt, .int .i64 le], .slice ap xs.length cp] w fun e w' => e = .returned (.bool true) ∧ Below w.heap.size w w' := by
  obtain ⟨q1, hq1⟩ : ∃ x, x = max tr0 1 := ⟨_, rfl⟩
  obtain ⟨tr, htr⟩ : ∃ x, x = min q1 8 := ⟨_, rfl⟩
  have r1 := max_run hq1.symm
  have r2 := min_run htr.symm
  have ht1 : 1 ≤ tr := by omega
  have ht8 : tr ≤ 8 := by omega
  clear hq1 htr w1 w2 w3 hI
  obtain ⟨tl, htl⟩ : ∃ x, x = ns.length := ⟨_, rfl⟩
  rw [← htl]
  clear htl
  obtain ⟨n, hn⟩ : ∃ n, n = xs.length := ⟨_, rfl⟩
  have hnb : n ≤ 9223372036854775807 := by rw [hn]; exact Nat.le_trans hA.1 hA.2.1
  have HA : Hid (IsA w ap cp xs) := hA
  have HN : Hid (n = xs.length) := hn
  rw [← hn]
  clear hn hA
  have c0 : ∀ W, Calls Try.prog 12 #[.agg #[.int .i64 0, .int .i64 0, .int .i64 0, .int .i64 0, .string ⟨#[]⟩]] W fun e w' => e = .returned (.agg #[.int .i64 1, .int .i64 0, .int .i64 0, .int .i64 0, .string ⟨#[]⟩]) ∧ Below W.heap.size W w' := fun W => readyT_any 0 0 0 0 ⟨#[]⟩ W
  go_enter Try.func8, Try.ntmps8
  go_wp2_with (first
    | (go_at_call 12; refine (c0 _).mono ?_; rintro e v0 ⟨rfl, hb⟩; obtain ⟨bt', hB'⟩ := boxes1 w [.slice ta tl tc, .int .i64 tr, .int .i64 wt, .int .i64 le] _ hb; have hlt := bt'.lt (by simp); have bt := bt'.alloc (.cells #[.int .i64 1, .int .i64 0, .int .i64 0, .int .i64 0, .string ⟨#[]⟩] 26); have bs := boxL_new v0 [.int .i64 1, .int .i64 0, .int .i64 0, .int .i64 0, .string ⟨#[]⟩] 26 rfl; have hB := hB'.alloc hB'.size (.cells #[.int .i64 1, .int .i64 0, .int .i64 0, .int .i64 0, .string ⟨#[]⟩] 26); clear bt' hB' hb))
  have n5 : w.heap.size ≠ v0.heap.size := by omega
  have n6 : w.heap.size ≤ v0.heap.size := by omega
  clear hlt r1 r2 c0
  obtain ⟨hs, hhs⟩ : ∃ h, h = v0.heap.size := ⟨_, rfl⟩
  rw [← hhs] at n5 n6 bs ⊢
  clear hhs
  have HR0 : Hid (rightT tr ⟨1, 0, 0, 0, ⟨#[]⟩⟩ = true) := right_ready tr ht1
  go_loopw [6, 7, 22] (fun a b v wr => ∃ (j : Nat) (N i t d k : Int) (r : ByteArray), j ≤ n ∧ j ≤ 60 ∧ v = .int .i64 j ∧ a = .int .i64 N ∧ b = .int .i64 t ∧ 0 ≤ N ∧ N ≤ 1099511627776 ∧ Hid (rightT tr ⟨i, t, d, k, r⟩ = true) ∧ BoxL wr w.heap.size [.slice ta tl tc, .int .i64 tr, .int .i64 wt, .int .i64 le] ∧ BoxL wr hs [.int .i64 i, .int .i64 t, .int .i64 d, .int .i64 k, .string r] ∧ Below w.heap.size w wr) (fun _ _ v _ => n - (intOf v).toNat)
  case atStart => exact ⟨0, 0, 1, 0, 0, 0, ⟨#[]⟩, by omega, by omega, rfl, rfl, rfl, by omega, by omega, HR0, bt, bs, hB⟩
  case round =>
    clear HR0 bt bs hB
    obtain ⟨j, N, i, t, d, k, r, hj, hj60, rfl, rfl, rfl, hN0, hN1, HR, bt, bs, hB⟩ := hrel
    have hsz := hB.size
    by_cases hlt : j < n
    · have hlt' : (j : Int) < n := by omega
      obtain ⟨⟨wh, be⟩, hx⟩ : ∃ p, xs[j]? = some p := ⟨_, List.getElem?_eq_getElem (by rw [← HN.out]; exact hlt)⟩
      obtain ⟨b, o, rfl, hbl, z0, z1, -, -⟩ := HA.out.2.2 j (wh, be) hx
      replace z0 := cell_below hB z0
      replace z1 := cell_below hB z1
      have hcap : n ≤ cp := by rw [HN.out]; exact HA.out.1
      clear hx hbl
      by_cases h60 : 60 ≤ j
      · have h60' : (60 : Int) ≤ j := by omega
        clear bt bs HR
        go_wp2_with (go_at_call 9; refine (alive18_any _).mono ?_; rintro e v3 ⟨rfl, hb⟩)
        go_ret
        exact ⟨rfl, Below.tr (hB.alloc hB.size _) hb⟩
      · have h60' : ¬ (60 : Int) ≤ j := by omega
        have hrr := (right_parts HR.out).1
        have hst := (standL_iff i t d k r).1 hrr
        have ht0 : 0 ≤ t := hst.2.1.1
        have htb : t ≤ tr := ((restL_iff tr i t d k r).1 (right_parts HR.out).2).1
        have hrz : r.size ≤ maxLen := by have := hst.2.2.2.2.2.1; unfold maxLen; omega
        have hi5 : 0 ≤ i ∧ i ≤ 5 := hst.1
        clear hrr hst
        obtain ⟨e1, he1⟩ : ∃ x, x = max be 0 := ⟨_, rfl⟩
        obtain ⟨e2, he2⟩ : ∃ x, x = min e1 2097152 := ⟨_, rfl⟩
        obtain ⟨N', hN'⟩ : ∃ x, x = min (N + e2) 1099511627776 := ⟨_, rfl⟩
        have m1 := max_run he1.symm
        have m2 := min_run he2.symm
        have m3 := min_run hN'.symm
        have he0 : 0 ≤ e2 := by omega
        have heb : e2 ≤ 2097152 := by omega
        have hN'0 : 0 ≤ N' := by omega
        have hN'1 : N' ≤ 1099511627776 := by omega
        clear he1 he2 hN'
        have n1 : hs ≠ wr.heap.size + 1 := by have := bs.lt (by simp); omega
        have n2 : w.heap.size ≠ wr.heap.size + 1 := by omega
        have n3 : w.heap.size ≤ wr.heap.size + 1 := by omega
        by_cases q0 : wh = 0
        · subst q0
          have cO := fun W => leaseT_any ta tl tc tr wt le i t d k r N' ((j : Int) + 1) W
          by_cases hl : i = 1 ∧ d ≤ untF N' []
          · obtain ⟨rfl, ho⟩ := hl
            have e0 : leaseE ⟨1, t, d, k, r⟩ N' ((j : Int) + 1) = 0 := by unfold leaseE; rw [if_pos (by omega), if_pos ⟨rfl, ho⟩]
            have hrl := right_lease (le := le) ht8 HR.out e0
            have hw : wrap64 (t + 1) = t + 1 := unt_wrap (s := ⟨1, t, d, k, r⟩) (right_parts HR.out).1
            have hlx : leaseT le ⟨1, t, d, k, r⟩ N' ((j : Int) + 1) = ⟨2, t + 1, untF N' [le], (j : Int) + 1, r⟩ := by rw [leaseT, if_pos e0]; show StP.mk _ _ _ _ _ = _; rw [hw]
            rw [hlx] at cO hrl
            rw [e0] at cO
            replace hrl := hrl.1
            generalize untF N' [le] = un at *
            clear ho e0 hlx hw
            have HP : Hid (rightT tr ⟨2, (t + 1), un, ((j : Int) + 1), r⟩ = true) := hrl
            have hpz : r.size ≤ maxLen := hrz
            have htq := ((restL_iff _ _ _ _ _ _).1 (right_parts HP.out).2).1
            replace cO : ∀ W, Calls Try.prog 18 #[.agg #[.slice ta tl tc, .int .i64 tr, .int .i64 wt, .int .i64 le], .agg #[.int .i64 1, .int .i64 t, .int .i64 d, .int .i64 k, .string r], .int .i64 N', .int .i64 ((j : Int) + 1)] W fun e w' => e = .returned (.tuple #[.agg #[.int .i64 2, .int .i64 (t + 1), .int .i64 un, .int .i64 ((j : Int) + 1), .string r], .int .i64 0]) ∧ Below W.heap.size W w' := cO
            have cQ := fun W => rightT_any ta tl tc tr wt le 2 (t + 1) un ((j : Int) + 1) r W hpz
            have cR := fun W => refRightT_any ta tl tc tr wt le 2 (t + 1) un ((j : Int) + 1) r W hpz
            rw [HP.out] at cQ cR
            have aa1 := (boxL_new wr [.int .i64 0, .int .i64 be] 48 rfl).1 1 _ rfl
            have ax0 := ((boxL_new wr [.int .i64 0, .int .i64 be] 48 rfl).alloc (.cells #[.int .i64 1, .int .i64 t, .int .i64 d, .int .i64 k, .string r] 26)).1 0 _ rfl
            have bsa := bs.alloc (.cells #[.int .i64 0, .int .i64 be] 48)
            have bsx := bsa.alloc (.cells #[.int .i64 1, .int .i64 t, .int .i64 d, .int .i64 k, .string r] 26)
            have btx := (bt.alloc (.cells #[.int .i64 0, .int .i64 be] 48)).alloc (.cells #[.int .i64 1, .int .i64 t, .int .i64 d, .int .i64 k, .string r] 26)
            have sa0 := bsa.1 0 _ rfl
            have sx0 := bsx.1 0 _ rfl
            have sa1 := bsa.1 1 _ rfl
            have sx1 := bsx.1 1 _ rfl
            have sa2 := bsa.1 2 _ rfl
            have sx2 := bsx.1 2 _ rfl
            have sa3 := bsa.1 3 _ rfl
            have sx3 := bsx.1 3 _ rfl
            have sa4 := bsa.1 4 _ rfl
            have sx4 := bsx.1 4 _ rfl
            have tx0 := btx.1 0 _ rfl
            have tx1 := btx.1 1 _ rfl
            have tx2 := btx.1 2 _ rfl
            have tx3 := btx.1 3 _ rfl
            clear bsa bsx btx
            clear hpz hrz hrl
            as_aux_lemma =>
              go_wp2_with (first
                | (go_at_call 18; refine (cO _).mono ?_; rintro e v1 ⟨rfl, hb⟩; clear sa0 sa1 sa2 sa3 sa4 sx0 sx1 sx2 sx3 sx4 tx0 tx1 tx2 tx3 aa1 ax0; have bt1 := ((bt.alloc (.cells #[.int .i64 0, .int .i64 be] 48)).alloc (.cells #[.int .i64 1, .int .i64 t, .int .i64 d, .int .i64 k, .string r] 26)).below hb; have bs1 := ((bs.alloc (.cells #[.int .i64 0, .int .i64 be] 48)).alloc (.cells #[.int .i64 1, .int .i64 t, .int .i64 d, .int .i64 k, .string r] 26)).below hb; have bx1 := (boxL_new (wr.alloc (.cells #[.int .i64 0, .int .i64 be] 48)) [.int .i64 1, .int .i64 t, .int .i64 d, .int .i64 k, .string r] 26 (h := wr.heap.size + 1) (by simp)).below hb; have hB1 := Below.tr ((hB.alloc hsz (.cells #[.int .i64 0, .int .i64 be] 48)).alloc (by simp; omega) (.cells #[.int .i64 1, .int .i64 t, .int .i64 d, .int .i64 k, .string r] 26)) hb; clear hb bt bs hB; generalize wr.heap.size + 1 = hx at *; have o0 := bx1.1 0 _ rfl; have o1 := bx1.1 1 _ rfl; have o2 := bx1.1 2 _ rfl; have o3 := bx1.1 3 _ rfl; have o4 := bx1.1 4 _ rfl; have f0 := bx1.2 0 (by simp); have f1 := bx1.2 1 (by simp); have f2 := bx1.2 2 (by simp); have f3 := bx1.2 3 (by simp); have f4 := bx1.2 4 (by simp); have bx := boxL_set5 bx1 (.int .i64 2) (.int .i64 (t + 1)) (.int .i64 un) (.int .i64 ((j : Int) + 1)) (.string r); have bt := boxL_off5 bt1 n2 (.int .i64 2) (.int .i64 (t + 1)) (.int .i64 un) (.int .i64 ((j : Int) + 1)) (.string r); have bs := boxL_off5 bs1 n1 (.int .i64 2) (.int .i64 (t + 1)) (.int .i64 un) (.int .i64 ((j : Int) + 1)) (.string r); have hB := below_setT hB1 n3 (.int .i64 2) (.int .i64 (t + 1)) (.int .i64 un) (.int .i64 ((j : Int) + 1)) (.string r); clear bx1 bt1 bs1 hB1)
                | (obtain ⟨U, hU⟩ : ∃ U, U = (((((v1.setCell ⟨hx, 0, none⟩ (.int .i64 2)).setCell ⟨hx, 1, none⟩ (.int .i64 (t + 1))).setCell ⟨hx, 2, none⟩ (.int .i64 un)).setCell ⟨hx, 3, none⟩ (.int .i64 ((j : Int) + 1))).setCell ⟨hx, 4, none⟩ (.string r)) := ⟨_, rfl⟩; rw [← hU]; rw [← hU] at bx bt bs hB; clear hU o0 o1 o2 o3 o4 f0 f1 f2 f3 f4; have s0 := bs.1 0 _ rfl; have s1 := bs.1 1 _ rfl; have s2 := bs.1 2 _ rfl; have s3 := bs.1 3 _ rfl; have s4 := bs.1 4 _ rfl; have y0 := bx.1 0 _ rfl; have y1 := bx.1 1 _ rfl; have y2 := bx.1 2 _ rfl; have y3 := bx.1 3 _ rfl; have y4 := bx.1 4 _ rfl; have f0 := bx.2 0 (by simp); have f1 := bx.2 1 (by simp); have f2 := bx.2 2 (by simp); have f3 := bx.2 3 (by simp); have f4 := bx.2 4 (by simp); have x0 := bt.1 0 _ rfl; have x1 := bt.1 1 _ rfl; have x2 := bt.1 2 _ rfl; have x3 := bt.1 3 _ rfl; skip)
                | (go_at_call 10; refine (cQ _).mono ?_; rintro e v2 ⟨rfl, hb⟩; replace bx := bx.below hb; replace bt := bt.below hb; replace bs := bs.below hb; replace hB := Below.tr hB hb; clear hb s0 s1 s2 s3 s4 y0 y1 y2 y3 y4 x0 x1 x2 x3; have s0 := bs.1 0 _ rfl; have s1 := bs.1 1 _ rfl; have s2 := bs.1 2 _ rfl; have s3 := bs.1 3 _ rfl; have s4 := bs.1 4 _ rfl; have y0 := bx.1 0 _ rfl; have y1 := bx.1 1 _ rfl; have y2 := bx.1 2 _ rfl; have y3 := bx.1 3 _ rfl; have y4 := bx.1 4 _ rfl; have x0 := bt.1 0 _ rfl; have x1 := bt.1 1 _ rfl; have x2 := bt.1 2 _ rfl; have x3 := bt.1 3 _ rfl; skip)
                | (go_at_call 11; refine (cR _).mono ?_; rintro e v3 ⟨rfl, hb⟩; replace bx := bx.below hb; replace bt := bt.below hb; replace bs := bs.below hb; replace hB := Below.tr hB hb; clear hb s0 s1 s2 s3 s4 y0 y1 y2 y3 y4 x0 x1 x2 x3; have s0 := bs.1 0 _ rfl; have s1 := bs.1 1 _ rfl; have s2 := bs.1 2 _ rfl; have s3 := bs.1 3 _ rfl; have s4 := bs.1 4 _ rfl; have y0 := bx.1 0 _ rfl; have y1 := bx.1 1 _ rfl; have y2 := bx.1 2 _ rfl; have y3 := bx.1 3 _ rfl; have y4 := bx.1 4 _ rfl; have x0 := bt.1 0 _ rfl; have x1 := bt.1 1 _ rfl; have x2 := bt.1 2 _ rfl; have x3 := bt.1 3 _ rfl; have g0 := bs.2 0 (by simp); have g1 := bs.2 1 (by simp); have g2 := bs.2 2 (by simp); have g3 := bs.2 3 (by simp); have g4 := bs.2 4 (by simp); skip))
              all_goals go_roundw
              case rel => exact ⟨j + 1, N', 2, (t + 1), un, ((j : Int) + 1), r, by omega, by omega, by go_num, rfl, rfl, hN'0, hN'1, HP, boxL_off5 bt n5 (.int .i64 2) (.int .i64 (t + 1)) (.int .i64 un) (.int .i64 ((j : Int) + 1)) (.string r), boxL_set5 bs (.int .i64 2) (.int .i64 (t + 1)) (.int .i64 un) (.int .i64 ((j : Int) + 1)) (.string r), below_setT hB n6 (.int .i64 2) (.int .i64 (t + 1)) (.int .i64 un) (.int .i64 ((j : Int) + 1)) (.string r)⟩
              case measure => simp [intOf]; omega
          have e0 : leaseE ⟨i, t, d, k, r⟩ N' ((j : Int) + 1) = 192 := by unfold leaseE; rw [if_pos (by omega), if_neg hl]
          rw [show leaseT le ⟨i, t, d, k, r⟩ N' ((j : Int) + 1) = zeroT from if_neg (by rw [e0]; decide), e0] at cO
          clear hl e0
          by_cases i3 : i = 3
          · subst i3
            have HP := HR
            have hpz := hrz
            replace cO : ∀ W, Calls Try.prog 18 #[.agg #[.slice ta tl tc, .int .i64 tr, .int .i64 wt, .int .i64 le], .agg #[.int .i64 3, .int .i64 t, .int .i64 d, .int .i64 k, .string r], .int .i64 N', .int .i64 ((j : Int) + 1)] W fun e w' => e = .returned (.tuple #[.agg #[.int .i64 0, .int .i64 0, .int .i64 0, .int .i64 0, .string ⟨#[]⟩], .int .i64 192]) ∧ Below W.heap.size W w' := cO
            have cQ := fun W => rightT_any ta tl tc tr wt le 3 t d k r W hpz
            have cR := fun W => refRightT_any ta tl tc tr wt le 3 t d k r W hpz
            rw [HP.out] at cQ cR
            have aa1 := (boxL_new wr [.int .i64 0, .int .i64 be] 48 rfl).1 1 _ rfl
            have ax0 := ((boxL_new wr [.int .i64 0, .int .i64 be] 48 rfl).alloc (.cells #[.int .i64 3, .int .i64 t, .int .i64 d, .int .i64 k, .string r] 26)).1 0 _ rfl
            have bsa := bs.alloc (.cells #[.int .i64 0, .int .i64 be] 48)
            have bsx := bsa.alloc (.cells #[.int .i64 3, .int .i64 t, .int .i64 d, .int .i64 k, .string r] 26)
            have btx := (bt.alloc (.cells #[.int .i64 0, .int .i64 be] 48)).alloc (.cells #[.int .i64 3, .int .i64 t, .int .i64 d, .int .i64 k, .string r] 26)
            have sa0 := bsa.1 0 _ rfl
            have sx0 := bsx.1 0 _ rfl
            have sa1 := bsa.1 1 _ rfl
            have sx1 := bsx.1 1 _ rfl
            have sa2 := bsa.1 2 _ rfl
            have sx2 := bsx.1 2 _ rfl
            have sa3 := bsa.1 3 _ rfl
            have sx3 := bsx.1 3 _ rfl
            have sa4 := bsa.1 4 _ rfl
            have sx4 := bsx.1 4 _ rfl
            have tx0 := btx.1 0 _ rfl
            have tx1 := btx.1 1 _ rfl
            have tx2 := btx.1 2 _ rfl
            have tx3 := btx.1 3 _ rfl
            clear bsa bsx btx
            clear hpz hrz
            as_aux_lemma =>
              go_wp2_with (first
                | (go_at_call 18; refine (cO _).mono ?_; rintro e v1 ⟨rfl, hb⟩; clear sa0 sa1 sa2 sa3 sa4 sx0 sx1 sx2 sx3 sx4 tx0 tx1 tx2 tx3 aa1 ax0; have bt1 := ((bt.alloc (.cells #[.int .i64 0, .int .i64 be] 48)).alloc (.cells #[.int .i64 3, .int .i64 t, .int .i64 d, .int .i64 k, .string r] 26)).below hb; have bs1 := ((bs.alloc (.cells #[.int .i64 0, .int .i64 be] 48)).alloc (.cells #[.int .i64 3, .int .i64 t, .int .i64 d, .int .i64 k, .string r] 26)).below hb; have bx1 := (boxL_new (wr.alloc (.cells #[.int .i64 0, .int .i64 be] 48)) [.int .i64 3, .int .i64 t, .int .i64 d, .int .i64 k, .string r] 26 (h := wr.heap.size + 1) (by simp)).below hb; have hB1 := Below.tr ((hB.alloc hsz (.cells #[.int .i64 0, .int .i64 be] 48)).alloc (by simp; omega) (.cells #[.int .i64 3, .int .i64 t, .int .i64 d, .int .i64 k, .string r] 26)) hb; clear hb bt bs hB; generalize wr.heap.size + 1 = hx at *; have o0 := bx1.1 0 _ rfl; have o1 := bx1.1 1 _ rfl; have o2 := bx1.1 2 _ rfl; have o3 := bx1.1 3 _ rfl; have o4 := bx1.1 4 _ rfl; have f0 := bx1.2 0 (by simp); have f1 := bx1.2 1 (by simp); have f2 := bx1.2 2 (by simp); have f3 := bx1.2 3 (by simp); have f4 := bx1.2 4 (by simp); have bx := boxL_set5 bx1 (.int .i64 0) (.int .i64 0) (.int .i64 0) (.int .i64 0) (.string ⟨#[]⟩); have bt := boxL_off5 bt1 n2 (.int .i64 0) (.int .i64 0) (.int .i64 0) (.int .i64 0) (.string ⟨#[]⟩); have bs := boxL_off5 bs1 n1 (.int .i64 0) (.int .i64 0) (.int .i64 0) (.int .i64 0) (.string ⟨#[]⟩); have hB := below_setT hB1 n3 (.int .i64 0) (.int .i64 0) (.int .i64 0) (.int .i64 0) (.string ⟨#[]⟩); clear bx1 bt1 bs1 hB1)
                | (obtain ⟨U, hU⟩ : ∃ U, U = (((((v1.setCell ⟨hx, 0, none⟩ (.int .i64 0)).setCell ⟨hx, 1, none⟩ (.int .i64 0)).setCell ⟨hx, 2, none⟩ (.int .i64 0)).setCell ⟨hx, 3, none⟩ (.int .i64 0)).setCell ⟨hx, 4, none⟩ (.string ⟨#[]⟩)) := ⟨_, rfl⟩; rw [← hU]; rw [← hU] at bx bt bs hB; clear hU o0 o1 o2 o3 o4 f0 f1 f2 f3 f4; have s0 := bs.1 0 _ rfl; have s1 := bs.1 1 _ rfl; have s2 := bs.1 2 _ rfl; have s3 := bs.1 3 _ rfl; have s4 := bs.1 4 _ rfl; have y0 := bx.1 0 _ rfl; have y1 := bx.1 1 _ rfl; have y2 := bx.1 2 _ rfl; have y3 := bx.1 3 _ rfl; have y4 := bx.1 4 _ rfl; have f0 := bx.2 0 (by simp); have f1 := bx.2 1 (by simp); have f2 := bx.2 2 (by simp); have f3 := bx.2 3 (by simp); have f4 := bx.2 4 (by simp); have x0 := bt.1 0 _ rfl; have x1 := bt.1 1 _ rfl; have x2 := bt.1 2 _ rfl; have x3 := bt.1 3 _ rfl; skip)
                | (obtain ⟨U2, hU⟩ : ∃ U2, U2 = (((((U.setCell ⟨hx, 0, none⟩ (.int .i64 3)).setCell ⟨hx, 1, none⟩ (.int .i64 t)).setCell ⟨hx, 2, none⟩ (.int .i64 d)).setCell ⟨hx, 3, none⟩ (.int .i64 k)).setCell ⟨hx, 4, none⟩ (.string r)) := ⟨_, rfl⟩; rw [← hU]; have bx2 := boxL_set5 bx (.int .i64 3) (.int .i64 t) (.int .i64 d) (.int .i64 k) (.string r); have bt2 := boxL_off5 bt n2 (.int .i64 3) (.int .i64 t) (.int .i64 d) (.int .i64 k) (.string r); have bs2 := boxL_off5 bs n1 (.int .i64 3) (.int .i64 t) (.int .i64 d) (.int .i64 k) (.string r); have hB2 := below_setT hB n3 (.int .i64 3) (.int .i64 t) (.int .i64 d) (.int .i64 k) (.string r); rw [← hU] at bx2 bt2 bs2 hB2; clear hU bx bt bs hB s0 s1 s2 s3 s4 y0 y1 y2 y3 y4 f0 f1 f2 f3 f4 x0 x1 x2 x3; have bx := bx2; have bt := bt2; have bs := bs2; have hB := hB2; clear bx2 bt2 bs2 hB2; have s0 := bs.1 0 _ rfl; have s1 := bs.1 1 _ rfl; have s2 := bs.1 2 _ rfl; have s3 := bs.1 3 _ rfl; have s4 := bs.1 4 _ rfl; have y0 := bx.1 0 _ rfl; have y1 := bx.1 1 _ rfl; have y2 := bx.1 2 _ rfl; have y3 := bx.1 3 _ rfl; have y4 := bx.1 4 _ rfl; have x0 := bt.1 0 _ rfl; have x1 := bt.1 1 _ rfl; have x2 := bt.1 2 _ rfl; have x3 := bt.1 3 _ rfl; skip)
                | (go_at_call 10; refine (cQ _).mono ?_; rintro e v2 ⟨rfl, hb⟩; replace bx := bx.below hb; replace bt := bt.below hb; replace bs := bs.below hb; replace hB := Below.tr hB hb; clear hb s0 s1 s2 s3 s4 y0 y1 y2 y3 y4 x0 x1 x2 x3; have s0 := bs.1 0 _ rfl; have s1 := bs.1 1 _ rfl; have s2 := bs.1 2 _ rfl; have s3 := bs.1 3 _ rfl; have s4 := bs.1 4 _ rfl; have y0 := bx.1 0 _ rfl; have y1 := bx.1 1 _ rfl; have y2 := bx.1 2 _ rfl; have y3 := bx.1 3 _ rfl; have y4 := bx.1 4 _ rfl; have x0 := bt.1 0 _ rfl; have x1 := bt.1 1 _ rfl; have x2 := bt.1 2 _ rfl; have x3 := bt.1 3 _ rfl; skip)
                | (go_at_call 11; refine (cR _).mono ?_; rintro e v3 ⟨rfl, hb⟩; replace bx := bx.below hb; replace bt := bt.below hb; replace bs := bs.below hb; replace hB := Below.tr hB hb; clear hb s0 s1 s2 s3 s4 y0 y1 y2 y3 y4 x0 x1 x2 x3; have s0 := bs.1 0 _ rfl; have s1 := bs.1 1 _ rfl; have s2 := bs.1 2 _ rfl; have s3 := bs.1 3 _ rfl; have s4 := bs.1 4 _ rfl; have y0 := bx.1 0 _ rfl; have y1 := bx.1 1 _ rfl; have y2 := bx.1 2 _ rfl; have y3 := bx.1 3 _ rfl; have y4 := bx.1 4 _ rfl; have x0 := bt.1 0 _ rfl; have x1 := bt.1 1 _ rfl; have x2 := bt.1 2 _ rfl; have x3 := bt.1 3 _ rfl; have g0 := bs.2 0 (by simp); have g1 := bs.2 1 (by simp); have g2 := bs.2 2 (by simp); have g3 := bs.2 3 (by simp); have g4 := bs.2 4 (by simp); skip))
              all_goals go_roundw
              case rel => exact ⟨j + 1, N', 3, t, d, k, r, by omega, by omega, by go_num, rfl, rfl, hN'0, hN'1, HP, boxL_off5 bt n5 (.int .i64 3) (.int .i64 t) (.int .i64 d) (.int .i64 k) (.string r), boxL_set5 bs (.int .i64 3) (.int .i64 t) (.int .i64 d) (.int .i64 k) (.string r), below_setT hB n6 (.int .i64 3) (.int .i64 t) (.int .i64 d) (.int .i64 k) (.string r)⟩
              case measure => simp [intOf]; omega
          by_cases i4 : i = 4
          · subst i4
            have HP := HR
            have hpz := hrz
            replace cO : ∀ W, Calls Try.prog 18 #[.agg #[.slice ta tl tc, .int .i64 tr, .int .i64 wt, .int .i64 le], .agg #[.int .i64 4, .int .i64 t, .int .i64 d, .int .i64 k, .string r], .int .i64 N', .int .i64 ((j : Int) + 1)] W fun e w' => e = .returned (.tuple #[.agg #[.int .i64 0, .int .i64 0, .int .i64 0, .int .i64 0, .string ⟨#[]⟩], .int .i64 192]) ∧ Below W.heap.size W w' := cO
            have cQ := fun W => rightT_any ta tl tc tr wt le 4 t d k r W hpz
            have cR := fun W => refRightT_any ta tl tc tr wt le 4 t d k r W hpz
            rw [HP.out] at cQ cR
            have aa1 := (boxL_new wr [.int .i64 0, .int .i64 be] 48 rfl).1 1 _ rfl
            have ax0 := ((boxL_new wr [.int .i64 0, .int .i64 be] 48 rfl).alloc (.cells #[.int .i64 4, .int .i64 t, .int .i64 d, .int .i64 k, .string r] 26)).1 0 _ rfl
            have bsa := bs.alloc (.cells #[.int .i64 0, .int .i64 be] 48)
            have bsx := bsa.alloc (.cells #[.int .i64 4, .int .i64 t, .int .i64 d, .int .i64 k, .string r] 26)
            have btx := (bt.alloc (.cells #[.int .i64 0, .int .i64 be] 48)).alloc (.cells #[.int .i64 4, .int .i64 t, .int .i64 d, .int .i64 k, .string r] 26)
            have sa0 := bsa.1 0 _ rfl
            have sx0 := bsx.1 0 _ rfl
            have sa1 := bsa.1 1 _ rfl
            have sx1 := bsx.1 1 _ rfl
            have sa2 := bsa.1 2 _ rfl
            have sx2 := bsx.1 2 _ rfl
            have sa3 := bsa.1 3 _ rfl
            have sx3 := bsx.1 3 _ rfl
            have sa4 := bsa.1 4 _ rfl
            have sx4 := bsx.1 4 _ rfl
            have tx0 := btx.1 0 _ rfl
            have tx1 := btx.1 1 _ rfl
            have tx2 := btx.1 2 _ rfl
            have tx3 := btx.1 3 _ rfl
            clear bsa bsx btx
            clear hpz hrz
            as_aux_lemma =>
              go_wp2_with (first
                | (go_at_call 18; refine (cO _).mono ?_; rintro e v1 ⟨rfl, hb⟩; clear sa0 sa1 sa2 sa3 sa4 sx0 sx1 sx2 sx3 sx4 tx0 tx1 tx2 tx3 aa1 ax0; have bt1 := ((bt.alloc (.cells #[.int .i64 0, .int .i64 be] 48)).alloc (.cells #[.int .i64 4, .int .i64 t, .int .i64 d, .int .i64 k, .string r] 26)).below hb; have bs1 := ((bs.alloc (.cells #[.int .i64 0, .int .i64 be] 48)).alloc (.cells #[.int .i64 4, .int .i64 t, .int .i64 d, .int .i64 k, .string r] 26)).below hb; have bx1 := (boxL_new (wr.alloc (.cells #[.int .i64 0, .int .i64 be] 48)) [.int .i64 4, .int .i64 t, .int .i64 d, .int .i64 k, .string r] 26 (h := wr.heap.size + 1) (by simp)).below hb; have hB1 := Below.tr ((hB.alloc hsz (.cells #[.int .i64 0, .int .i64 be] 48)).alloc (by simp; omega) (.cells #[.int .i64 4, .int .i64 t, .int .i64 d, .int .i64 k, .string r] 26)) hb; clear hb bt bs hB; generalize wr.heap.size + 1 = hx at *; have o0 := bx1.1 0 _ rfl; have o1 := bx1.1 1 _ rfl; have o2 := bx1.1 2 _ rfl; have o3 := bx1.1 3 _ rfl; have o4 := bx1.1 4 _ rfl; have f0 := bx1.2 0 (by simp); have f1 := bx1.2 1 (by simp); have f2 := bx1.2 2 (by simp); have f3 := bx1.2 3 (by simp); have f4 := bx1.2 4 (by simp); have bx := boxL_set5 bx1 (.int .i64 0) (.int .i64 0) (.int .i64 0) (.int .i64 0) (.string ⟨#[]⟩); have bt := boxL_off5 bt1 n2 (.int .i64 0) (.int .i64 0) (.int .i64 0) (.int .i64 0) (.string ⟨#[]⟩); have bs := boxL_off5 bs1 n1 (.int .i64 0) (.int .i64 0) (.int .i64 0) (.int .i64 0) (.string ⟨#[]⟩); have hB := below_setT hB1 n3 (.int .i64 0) (.int .i64 0) (.int .i64 0) (.int .i64 0) (.string ⟨#[]⟩); clear bx1 bt1 bs1 hB1)
                | (obtain ⟨U, hU⟩ : ∃ U, U = (((((v1.setCell ⟨hx, 0, none⟩ (.int .i64 0)).setCell ⟨hx, 1, none⟩ (.int .i64 0)).setCell ⟨hx, 2, none⟩ (.int .i64 0)).setCell ⟨hx, 3, none⟩ (.int .i64 0)).setCell ⟨hx, 4, none⟩ (.string ⟨#[]⟩)) := ⟨_, rfl⟩; rw [← hU]; rw [← hU] at bx bt bs hB; clear hU o0 o1 o2 o3 o4 f0 f1 f2 f3 f4; have s0 := bs.1 0 _ rfl; have s1 := bs.1 1 _ rfl; have s2 := bs.1 2 _ rfl; have s3 := bs.1 3 _ rfl; have s4 := bs.1 4 _ rfl; have y0 := bx.1 0 _ rfl; have y1 := bx.1 1 _ rfl; have y2 := bx.1 2 _ rfl; have y3 := bx.1 3 _ rfl; have y4 := bx.1 4 _ rfl; have f0 := bx.2 0 (by simp); have f1 := bx.2 1 (by simp); have f2 := bx.2 2 (by simp); have f3 := bx.2 3 (by simp); have f4 := bx.2 4 (by simp); have x0 := bt.1 0 _ rfl; have x1 := bt.1 1 _ rfl; have x2 := bt.1 2 _ rfl; have x3 := bt.1 3 _ rfl; skip)
                | (obtain ⟨U2, hU⟩ : ∃ U2, U2 = (((((U.setCell ⟨hx, 0, none⟩ (.int .i64 4)).setCell ⟨hx, 1, none⟩ (.int .i64 t)).setCell ⟨hx, 2, none⟩ (.int .i64 d)).setCell ⟨hx, 3, none⟩ (.int .i64 k)).setCell ⟨hx, 4, none⟩ (.string r)) := ⟨_, rfl⟩; rw [← hU]; have bx2 := boxL_set5 bx (.int .i64 4) (.int .i64 t) (.int .i64 d) (.int .i64 k) (.string r); have bt2 := boxL_off5 bt n2 (.int .i64 4) (.int .i64 t) (.int .i64 d) (.int .i64 k) (.string r); have bs2 := boxL_off5 bs n1 (.int .i64 4) (.int .i64 t) (.int .i64 d) (.int .i64 k) (.string r); have hB2 := below_setT hB n3 (.int .i64 4) (.int .i64 t) (.int .i64 d) (.int .i64 k) (.string r); rw [← hU] at bx2 bt2 bs2 hB2; clear hU bx bt bs hB s0 s1 s2 s3 s4 y0 y1 y2 y3 y4 f0 f1 f2 f3 f4 x0 x1 x2 x3; have bx := bx2; have bt := bt2; have bs := bs2; have hB := hB2; clear bx2 bt2 bs2 hB2; have s0 := bs.1 0 _ rfl; have s1 := bs.1 1 _ rfl; have s2 := bs.1 2 _ rfl; have s3 := bs.1 3 _ rfl; have s4 := bs.1 4 _ rfl; have y0 := bx.1 0 _ rfl; have y1 := bx.1 1 _ rfl; have y2 := bx.1 2 _ rfl; have y3 := bx.1 3 _ rfl; have y4 := bx.1 4 _ rfl; have x0 := bt.1 0 _ rfl; have x1 := bt.1 1 _ rfl; have x2 := bt.1 2 _ rfl; have x3 := bt.1 3 _ rfl; skip)
                | (go_at_call 10; refine (cQ _).mono ?_; rintro e v2 ⟨rfl, hb⟩; replace bx := bx.below hb; replace bt := bt.below hb; replace bs := bs.below hb; replace hB := Below.tr hB hb; clear hb s0 s1 s2 s3 s4 y0 y1 y2 y3 y4 x0 x1 x2 x3; have s0 := bs.1 0 _ rfl; have s1 := bs.1 1 _ rfl; have s2 := bs.1 2 _ rfl; have s3 := bs.1 3 _ rfl; have s4 := bs.1 4 _ rfl; have y0 := bx.1 0 _ rfl; have y1 := bx.1 1 _ rfl; have y2 := bx.1 2 _ rfl; have y3 := bx.1 3 _ rfl; have y4 := bx.1 4 _ rfl; have x0 := bt.1 0 _ rfl; have x1 := bt.1 1 _ rfl; have x2 := bt.1 2 _ rfl; have x3 := bt.1 3 _ rfl; skip)
                | (go_at_call 11; refine (cR _).mono ?_; rintro e v3 ⟨rfl, hb⟩; replace bx := bx.below hb; replace bt := bt.below hb; replace bs := bs.below hb; replace hB := Below.tr hB hb; clear hb s0 s1 s2 s3 s4 y0 y1 y2 y3 y4 x0 x1 x2 x3; have s0 := bs.1 0 _ rfl; have s1 := bs.1 1 _ rfl; have s2 := bs.1 2 _ rfl; have s3 := bs.1 3 _ rfl; have s4 := bs.1 4 _ rfl; have y0 := bx.1 0 _ rfl; have y1 := bx.1 1 _ rfl; have y2 := bx.1 2 _ rfl; have y3 := bx.1 3 _ rfl; have y4 := bx.1 4 _ rfl; have x0 := bt.1 0 _ rfl; have x1 := bt.1 1 _ rfl; have x2 := bt.1 2 _ rfl; have x3 := bt.1 3 _ rfl; have g0 := bs.2 0 (by simp); have g1 := bs.2 1 (by simp); have g2 := bs.2 2 (by simp); have g3 := bs.2 3 (by simp); have g4 := bs.2 4 (by simp); skip))
              all_goals go_roundw
              case rel => exact ⟨j + 1, N', 4, t, d, k, r, by omega, by omega, by go_num, rfl, rfl, hN'0, hN'1, HP, boxL_off5 bt n5 (.int .i64 4) (.int .i64 t) (.int .i64 d) (.int .i64 k) (.string r), boxL_set5 bs (.int .i64 4) (.int .i64 t) (.int .i64 d) (.int .i64 k) (.string r), below_setT hB n6 (.int .i64 4) (.int .i64 t) (.int .i64 d) (.int .i64 k) (.string r)⟩
              case measure => simp [intOf]; omega
          by_cases i5 : i = 5
          · subst i5
            have HP := HR
            have hpz := hrz
            replace cO : ∀ W, Calls Try.prog 18 #[.agg #[.slice ta tl tc, .int .i64 tr, .int .i64 wt, .int .i64 le], .agg #[.int .i64 5, .int .i64 t, .int .i64 d, .int .i64 k, .string r], .int .i64 N', .int .i64 ((j : Int) + 1)] W fun e w' => e = .returned (.tuple #[.agg #[.int .i64 0, .int .i64 0, .int .i64 0, .int .i64 0, .string ⟨#[]⟩], .int .i64 192]) ∧ Below W.heap.size W w' := cO
            have cQ := fun W => rightT_any ta tl tc tr wt le 5 t d k r W hpz
            have cR := fun W => refRightT_any ta tl tc tr wt le 5 t d k r W hpz
            rw [HP.out] at cQ cR
            have aa1 := (boxL_new wr [.int .i64 0, .int .i64 be] 48 rfl).1 1 _ rfl
            have ax0 := ((boxL_new wr [.int .i64 0, .int .i64 be] 48 rfl).alloc (.cells #[.int .i64 5, .int .i64 t, .int .i64 d, .int .i64 k, .string r] 26)).1 0 _ rfl
            have bsa := bs.alloc (.cells #[.int .i64 0, .int .i64 be] 48)
            have bsx := bsa.alloc (.cells #[.int .i64 5, .int .i64 t, .int .i64 d, .int .i64 k, .string r] 26)
            have btx := (bt.alloc (.cells #[.int .i64 0, .int .i64 be] 48)).alloc (.cells #[.int .i64 5, .int .i64 t, .int .i64 d, .int .i64 k, .string r] 26)
            have sa0 := bsa.1 0 _ rfl
            have sx0 := bsx.1 0 _ rfl
            have sa1 := bsa.1 1 _ rfl
            have sx1 := bsx.1 1 _ rfl
            have sa2 := bsa.1 2 _ rfl
            have sx2 := bsx.1 2 _ rfl
            have sa3 := bsa.1 3 _ rfl
            have sx3 := bsx.1 3 _ rfl
            have sa4 := bsa.1 4 _ rfl
            have sx4 := bsx.1 4 _ rfl
            have tx0 := btx.1 0 _ rfl
            have tx1 := btx.1 1 _ rfl
            have tx2 := btx.1 2 _ rfl
            have tx3 := btx.1 3 _ rfl
            clear bsa bsx btx
            clear hpz hrz
            as_aux_lemma =>
              go_wp2_with (first
                | (go_at_call 18; refine (cO _).mono ?_; rintro e v1 ⟨rfl, hb⟩; clear sa0 sa1 sa2 sa3 sa4 sx0 sx1 sx2 sx3 sx4 tx0 tx1 tx2 tx3 aa1 ax0; have bt1 := ((bt.alloc (.cells #[.int .i64 0, .int .i64 be] 48)).alloc (.cells #[.int .i64 5, .int .i64 t, .int .i64 d, .int .i64 k, .string r] 26)).below hb; have bs1 := ((bs.alloc (.cells #[.int .i64 0, .int .i64 be] 48)).alloc (.cells #[.int .i64 5, .int .i64 t, .int .i64 d, .int .i64 k, .string r] 26)).below hb; have bx1 := (boxL_new (wr.alloc (.cells #[.int .i64 0, .int .i64 be] 48)) [.int .i64 5, .int .i64 t, .int .i64 d, .int .i64 k, .string r] 26 (h := wr.heap.size + 1) (by simp)).below hb; have hB1 := Below.tr ((hB.alloc hsz (.cells #[.int .i64 0, .int .i64 be] 48)).alloc (by simp; omega) (.cells #[.int .i64 5, .int .i64 t, .int .i64 d, .int .i64 k, .string r] 26)) hb; clear hb bt bs hB; generalize wr.heap.size + 1 = hx at *; have o0 := bx1.1 0 _ rfl; have o1 := bx1.1 1 _ rfl; have o2 := bx1.1 2 _ rfl; have o3 := bx1.1 3 _ rfl; have o4 := bx1.1 4 _ rfl; have f0 := bx1.2 0 (by simp); have f1 := bx1.2 1 (by simp); have f2 := bx1.2 2 (by simp); have f3 := bx1.2 3 (by simp); have f4 := bx1.2 4 (by simp); have bx := boxL_set5 bx1 (.int .i64 0) (.int .i64 0) (.int .i64 0) (.int .i64 0) (.string ⟨#[]⟩); have bt := boxL_off5 bt1 n2 (.int .i64 0) (.int .i64 0) (.int .i64 0) (.int .i64 0) (.string ⟨#[]⟩); have bs := boxL_off5 bs1 n1 (.int .i64 0) (.int .i64 0) (.int .i64 0) (.int .i64 0) (.string ⟨#[]⟩); have hB := below_setT hB1 n3 (.int .i64 0) (.int .i64 0) (.int .i64 0) (.int .i64 0) (.string ⟨#[]⟩); clear bx1 bt1 bs1 hB1)
                | (obtain ⟨U, hU⟩ : ∃ U, U = (((((v1.setCell ⟨hx, 0, none⟩ (.int .i64 0)).setCell ⟨hx, 1, none⟩ (.int .i64 0)).setCell ⟨hx, 2, none⟩ (.int .i64 0)).setCell ⟨hx, 3, none⟩ (.int .i64 0)).setCell ⟨hx, 4, none⟩ (.string ⟨#[]⟩)) := ⟨_, rfl⟩; rw [← hU]; rw [← hU] at bx bt bs hB; clear hU o0 o1 o2 o3 o4 f0 f1 f2 f3 f4; have s0 := bs.1 0 _ rfl; have s1 := bs.1 1 _ rfl; have s2 := bs.1 2 _ rfl; have s3 := bs.1 3 _ rfl; have s4 := bs.1 4 _ rfl; have y0 := bx.1 0 _ rfl; have y1 := bx.1 1 _ rfl; have y2 := bx.1 2 _ rfl; have y3 := bx.1 3 _ rfl; have y4 := bx.1 4 _ rfl; have f0 := bx.2 0 (by simp); have f1 := bx.2 1 (by simp); have f2 := bx.2 2 (by simp); have f3 := bx.2 3 (by simp); have f4 := bx.2 4 (by simp); have x0 := bt.1 0 _ rfl; have x1 := bt.1 1 _ rfl; have x2 := bt.1 2 _ rfl; have x3 := bt.1 3 _ rfl; skip)
                | (obtain ⟨U2, hU⟩ : ∃ U2, U2 = (((((U.setCell ⟨hx, 0, none⟩ (.int .i64 5)).setCell ⟨hx, 1, none⟩ (.int .i64 t)).setCell ⟨hx, 2, none⟩ (.int .i64 d)).setCell ⟨hx, 3, none⟩ (.int .i64 k)).setCell ⟨hx, 4, none⟩ (.string r)) := ⟨_, rfl⟩; rw [← hU]; have bx2 := boxL_set5 bx (.int .i64 5) (.int .i64 t) (.int .i64 d) (.int .i64 k) (.string r); have bt2 := boxL_off5 bt n2 (.int .i64 5) (.int .i64 t) (.int .i64 d) (.int .i64 k) (.string r); have bs2 := boxL_off5 bs n1 (.int .i64 5) (.int .i64 t) (.int .i64 d) (.int .i64 k) (.string r); have hB2 := below_setT hB n3 (.int .i64 5) (.int .i64 t) (.int .i64 d) (.int .i64 k) (.string r); rw [← hU] at bx2 bt2 bs2 hB2; clear hU bx bt bs hB s0 s1 s2 s3 s4 y0 y1 y2 y3 y4 f0 f1 f2 f3 f4 x0 x1 x2 x3; have bx := bx2; have bt := bt2; have bs := bs2; have hB := hB2; clear bx2 bt2 bs2 hB2; have s0 := bs.1 0 _ rfl; have s1 := bs.1 1 _ rfl; have s2 := bs.1 2 _ rfl; have s3 := bs.1 3 _ rfl; have s4 := bs.1 4 _ rfl; have y0 := bx.1 0 _ rfl; have y1 := bx.1 1 _ rfl; have y2 := bx.1 2 _ rfl; have y3 := bx.1 3 _ rfl; have y4 := bx.1 4 _ rfl; have x0 := bt.1 0 _ rfl; have x1 := bt.1 1 _ rfl; have x2 := bt.1 2 _ rfl; have x3 := bt.1 3 _ rfl; skip)
                | (go_at_call 10; refine (cQ _).mono ?_; rintro e v2 ⟨rfl, hb⟩; replace bx := bx.below hb; replace bt := bt.below hb; replace bs := bs.below hb; replace hB := Below.tr hB hb; clear hb s0 s1 s2 s3 s4 y0 y1 y2 y3 y4 x0 x1 x2 x3; have s0 := bs.1 0 _ rfl; have s1 := bs.1 1 _ rfl; have s2 := bs.1 2 _ rfl; have s3 := bs.1 3 _ rfl; have s4 := bs.1 4 _ rfl; have y0 := bx.1 0 _ rfl; have y1 := bx.1 1 _ rfl; have y2 := bx.1 2 _ rfl; have y3 := bx.1 3 _ rfl; have y4 := bx.1 4 _ rfl; have x0 := bt.1 0 _ rfl; have x1 := bt.1 1 _ rfl; have x2 := bt.1 2 _ rfl; have x3 := bt.1 3 _ rfl; skip)
                | (go_at_call 11; refine (cR _).mono ?_; rintro e v3 ⟨rfl, hb⟩; replace bx := bx.below hb; replace bt := bt.below hb; replace bs := bs.below hb; replace hB := Below.tr hB hb; clear hb s0 s1 s2 s3 s4 y0 y1 y2 y3 y4 x0 x1 x2 x3; have s0 := bs.1 0 _ rfl; have s1 := bs.1 1 _ rfl; have s2 := bs.1 2 _ rfl; have s3 := bs.1 3 _ rfl; have s4 := bs.1 4 _ rfl; have y0 := bx.1 0 _ rfl; have y1 := bx.1 1 _ rfl; have y2 := bx.1 2 _ rfl; have y3 := bx.1 3 _ rfl; have y4 := bx.1 4 _ rfl; have x0 := bt.1 0 _ rfl; have x1 := bt.1 1 _ rfl; have x2 := bt.1 2 _ rfl; have x3 := bt.1 3 _ rfl; have g0 := bs.2 0 (by simp); have g1 := bs.2 1 (by simp); have g2 := bs.2 2 (by simp); have g3 := bs.2 3 (by simp); have g4 := bs.2 4 (by simp); skip))
              all_goals go_roundw
              case rel => exact ⟨j + 1, N', 5, t, d, k, r, by omega, by omega, by go_num, rfl, rfl, hN'0, hN'1, HP, boxL_off5 bt n5 (.int .i64 5) (.int .i64 t) (.int .i64 d) (.int .i64 k) (.string r), boxL_set5 bs (.int .i64 5) (.int .i64 t) (.int .i64 d) (.int .i64 k) (.string r), below_setT hB n6 (.int .i64 5) (.int .i64 t) (.int .i64 d) (.int .i64 k) (.string r)⟩
              case measure => simp [intOf]; omega
          have g3 : (i == 3) = false := by simpa using i3
          have g4 : (i == 4) = false := by simpa using i4
          have g5 : (i == 5) = false := by simpa using i5
          clear i3 i4 i5
          have HP := HR
          have hpz := hrz
          replace cO : ∀ W, Calls Try.prog 18 #[.agg #[.slice ta tl tc, .int .i64 tr, .int .i64 wt, .int .i64 le], .agg #[.int .i64 i, .int .i64 t, .int .i64 d, .int .i64 k, .string r], .int .i64 N', .int .i64 ((j : Int) + 1)] W fun e w' => e = .returned (.tuple #[.agg #[.int .i64 0, .int .i64 0, .int .i64 0, .int .i64 0, .string ⟨#[]⟩], .int .i64 192]) ∧ Below W.heap.size W w' := cO
          have cQ := fun W => rightT_any ta tl tc tr wt le i t d k r W hpz
          have cR := fun W => refRightT_any ta tl tc tr wt le i t d k r W hpz
          rw [HP.out] at cQ cR
          have aa1 := (boxL_new wr [.int .i64 0, .int .i64 be] 48 rfl).1 1 _ rfl
          have ax0 := ((boxL_new wr [.int .i64 0, .int .i64 be] 48 rfl).alloc (.cells #[.int .i64 i, .int .i64 t, .int .i64 d, .int .i64 k, .string r] 26)).1 0 _ rfl
          have bsa := bs.alloc (.cells #[.int .i64 0, .int .i64 be] 48)
          have bsx := bsa.alloc (.cells #[.int .i64 i, .int .i64 t, .int .i64 d, .int .i64 k, .string r] 26)
          have btx := (bt.alloc (.cells #[.int .i64 0, .int .i64 be] 48)).alloc (.cells #[.int .i64 i, .int .i64 t, .int .i64 d, .int .i64 k, .string r] 26)
          have sa0 := bsa.1 0 _ rfl
          have sx0 := bsx.1 0 _ rfl
          have sa1 := bsa.1 1 _ rfl
          have sx1 := bsx.1 1 _ rfl
          have sa2 := bsa.1 2 _ rfl
          have sx2 := bsx.1 2 _ rfl
          have sa3 := bsa.1 3 _ rfl
          have sx3 := bsx.1 3 _ rfl
          have sa4 := bsa.1 4 _ rfl
          have sx4 := bsx.1 4 _ rfl
          have tx0 := btx.1 0 _ rfl
          have tx1 := btx.1 1 _ rfl
          have tx2 := btx.1 2 _ rfl
          have tx3 := btx.1 3 _ rfl
          clear bsa bsx btx
          clear hpz hrz
          as_aux_lemma =>
            go_wp2_with (first
              | (go_at_call 18; refine (cO _).mono ?_; rintro e v1 ⟨rfl, hb⟩; clear sa0 sa1 sa2 sa3 sa4 sx0 sx1 sx2 sx3 sx4 tx0 tx1 tx2 tx3 aa1 ax0; have bt1 := ((bt.alloc (.cells #[.int .i64 0, .int .i64 be] 48)).alloc (.cells #[.int .i64 i, .int .i64 t, .int .i64 d, .int .i64 k, .string r] 26)).below hb; have bs1 := ((bs.alloc (.cells #[.int .i64 0, .int .i64 be] 48)).alloc (.cells #[.int .i64 i, .int .i64 t, .int .i64 d, .int .i64 k, .string r] 26)).below hb; have bx1 := (boxL_new (wr.alloc (.cells #[.int .i64 0, .int .i64 be] 48)) [.int .i64 i, .int .i64 t, .int .i64 d, .int .i64 k, .string r] 26 (h := wr.heap.size + 1) (by simp)).below hb; have hB1 := Below.tr ((hB.alloc hsz (.cells #[.int .i64 0, .int .i64 be] 48)).alloc (by simp; omega) (.cells #[.int .i64 i, .int .i64 t, .int .i64 d, .int .i64 k, .string r] 26)) hb; clear hb bt bs hB; generalize wr.heap.size + 1 = hx at *; have o0 := bx1.1 0 _ rfl; have o1 := bx1.1 1 _ rfl; have o2 := bx1.1 2 _ rfl; have o3 := bx1.1 3 _ rfl; have o4 := bx1.1 4 _ rfl; have f0 := bx1.2 0 (by simp); have f1 := bx1.2 1 (by simp); have f2 := bx1.2 2 (by simp); have f3 := bx1.2 3 (by simp); have f4 := bx1.2 4 (by simp); have bx := boxL_set5 bx1 (.int .i64 0) (.int .i64 0) (.int .i64 0) (.int .i64 0) (.string ⟨#[]⟩); have bt := boxL_off5 bt1 n2 (.int .i64 0) (.int .i64 0) (.int .i64 0) (.int .i64 0) (.string ⟨#[]⟩); have bs := boxL_off5 bs1 n1 (.int .i64 0) (.int .i64 0) (.int .i64 0) (.int .i64 0) (.string ⟨#[]⟩); have hB := below_setT hB1 n3 (.int .i64 0) (.int .i64 0) (.int .i64 0) (.int .i64 0) (.string ⟨#[]⟩); clear bx1 bt1 bs1 hB1)
              | (obtain ⟨U, hU⟩ : ∃ U, U = (((((v1.setCell ⟨hx, 0, none⟩ (.int .i64 0)).setCell ⟨hx, 1, none⟩ (.int .i64 0)).setCell ⟨hx, 2, none⟩ (.int .i64 0)).setCell ⟨hx, 3, none⟩ (.int .i64 0)).setCell ⟨hx, 4, none⟩ (.string ⟨#[]⟩)) := ⟨_, rfl⟩; rw [← hU]; rw [← hU] at bx bt bs hB; clear hU o0 o1 o2 o3 o4 f0 f1 f2 f3 f4; have s0 := bs.1 0 _ rfl; have s1 := bs.1 1 _ rfl; have s2 := bs.1 2 _ rfl; have s3 := bs.1 3 _ rfl; have s4 := bs.1 4 _ rfl; have y0 := bx.1 0 _ rfl; have y1 := bx.1 1 _ rfl; have y2 := bx.1 2 _ rfl; have y3 := bx.1 3 _ rfl; have y4 := bx.1 4 _ rfl; have f0 := bx.2 0 (by simp); have f1 := bx.2 1 (by simp); have f2 := bx.2 2 (by simp); have f3 := bx.2 3 (by simp); have f4 := bx.2 4 (by simp); have x0 := bt.1 0 _ rfl; have x1 := bt.1 1 _ rfl; have x2 := bt.1 2 _ rfl; have x3 := bt.1 3 _ rfl; skip)
              | (obtain ⟨U2, hU⟩ : ∃ U2, U2 = (((((U.setCell ⟨hx, 0, none⟩ (.int .i64 i)).setCell ⟨hx, 1, none⟩ (.int .i64 t)).setCell ⟨hx, 2, none⟩ (.int .i64 d)).setCell ⟨hx, 3, none⟩ (.int .i64 k)).setCell ⟨hx, 4, none⟩ (.string r)) := ⟨_, rfl⟩; rw [← hU]; have bx2 := boxL_set5 bx (.int .i64 i) (.int .i64 t) (.int .i64 d) (.int .i64 k) (.string r); have bt2 := boxL_off5 bt n2 (.int .i64 i) (.int .i64 t) (.int .i64 d) (.int .i64 k) (.string r); have bs2 := boxL_off5 bs n1 (.int .i64 i) (.int .i64 t) (.int .i64 d) (.int .i64 k) (.string r); have hB2 := below_setT hB n3 (.int .i64 i) (.int .i64 t) (.int .i64 d) (.int .i64 k) (.string r); rw [← hU] at bx2 bt2 bs2 hB2; clear hU bx bt bs hB s0 s1 s2 s3 s4 y0 y1 y2 y3 y4 f0 f1 f2 f3 f4 x0 x1 x2 x3; have bx := bx2; have bt := bt2; have bs := bs2; have hB := hB2; clear bx2 bt2 bs2 hB2; have s0 := bs.1 0 _ rfl; have s1 := bs.1 1 _ rfl; have s2 := bs.1 2 _ rfl; have s3 := bs.1 3 _ rfl; have s4 := bs.1 4 _ rfl; have y0 := bx.1 0 _ rfl; have y1 := bx.1 1 _ rfl; have y2 := bx.1 2 _ rfl; have y3 := bx.1 3 _ rfl; have y4 := bx.1 4 _ rfl; have x0 := bt.1 0 _ rfl; have x1 := bt.1 1 _ rfl; have x2 := bt.1 2 _ rfl; have x3 := bt.1 3 _ rfl; skip)
              | (go_at_call 10; refine (cQ _).mono ?_; rintro e v2 ⟨rfl, hb⟩; replace bx := bx.below hb; replace bt := bt.below hb; replace bs := bs.below hb; replace hB := Below.tr hB hb; clear hb s0 s1 s2 s3 s4 y0 y1 y2 y3 y4 x0 x1 x2 x3; have s0 := bs.1 0 _ rfl; have s1 := bs.1 1 _ rfl; have s2 := bs.1 2 _ rfl; have s3 := bs.1 3 _ rfl; have s4 := bs.1 4 _ rfl; have y0 := bx.1 0 _ rfl; have y1 := bx.1 1 _ rfl; have y2 := bx.1 2 _ rfl; have y3 := bx.1 3 _ rfl; have y4 := bx.1 4 _ rfl; have x0 := bt.1 0 _ rfl; have x1 := bt.1 1 _ rfl; have x2 := bt.1 2 _ rfl; have x3 := bt.1 3 _ rfl; skip)
              | (go_at_call 11; refine (cR _).mono ?_; rintro e v3 ⟨rfl, hb⟩; replace bx := bx.below hb; replace bt := bt.below hb; replace bs := bs.below hb; replace hB := Below.tr hB hb; clear hb s0 s1 s2 s3 s4 y0 y1 y2 y3 y4 x0 x1 x2 x3; have s0 := bs.1 0 _ rfl; have s1 := bs.1 1 _ rfl; have s2 := bs.1 2 _ rfl; have s3 := bs.1 3 _ rfl; have s4 := bs.1 4 _ rfl; have y0 := bx.1 0 _ rfl; have y1 := bx.1 1 _ rfl; have y2 := bx.1 2 _ rfl; have y3 := bx.1 3 _ rfl; have y4 := bx.1 4 _ rfl; have x0 := bt.1 0 _ rfl; have x1 := bt.1 1 _ rfl; have x2 := bt.1 2 _ rfl; have x3 := bt.1 3 _ rfl; have g0 := bs.2 0 (by simp); have g1 := bs.2 1 (by simp); have g2 := bs.2 2 (by simp); have g3 := bs.2 3 (by simp); have g4 := bs.2 4 (by simp); skip))
            all_goals go_roundw
            case rel => exact ⟨j + 1, N', i, t, d, k, r, by omega, by omega, by go_num, rfl, rfl, hN'0, hN'1, HP, boxL_off5 bt n5 (.int .i64 i) (.int .i64 t) (.int .i64 d) (.int .i64 k) (.string r), boxL_set5 bs (.int .i64 i) (.int .i64 t) (.int .i64 d) (.int .i64 k) (.string r), below_setT hB n6 (.int .i64 i) (.int .i64 t) (.int .i64 d) (.int .i64 k) (.string r)⟩
            case measure => simp [intOf]; omega
        by_cases q1 : wh = 1
        · subst q1
          clear q0
          have cO := fun W => beatT_any ta tl tc tr wt le i t d k r N' W
          by_cases hl : i = 2
          · subst hl
            have hrl := (right_beat (le := le) (now := N') HR.out rfl).1
            rw [show beatT le ⟨2, t, d, k, r⟩ N' = ⟨2, t, untF N' [le], k, r⟩ from if_pos rfl] at cO hrl
            rw [show heldE ⟨2, t, d, k, r⟩ = 0 from rfl] at cO
            generalize untF N' [le] = un at *
            have HP : Hid (rightT tr ⟨2, t, un, k, r⟩ = true) := hrl
            have hpz : r.size ≤ maxLen := hrz
            have htq := ((restL_iff _ _ _ _ _ _).1 (right_parts HP.out).2).1
            replace cO : ∀ W, Calls Try.prog 20 #[.agg #[.slice ta tl tc, .int .i64 tr, .int .i64 wt, .int .i64 le], .agg #[.int .i64 2, .int .i64 t, .int .i64 d, .int .i64 k, .string r], .int .i64 N'] W fun e w' => e = .returned (.tuple #[.agg #[.int .i64 2, .int .i64 t, .int .i64 un, .int .i64 k, .string r], .int .i64 0]) ∧ Below W.heap.size W w' := cO
            have cQ := fun W => rightT_any ta tl tc tr wt le 2 t un k r W hpz
            have cR := fun W => refRightT_any ta tl tc tr wt le 2 t un k r W hpz
            rw [HP.out] at cQ cR
            have aa1 := (boxL_new wr [.int .i64 1, .int .i64 be] 48 rfl).1 1 _ rfl
            have ax0 := ((boxL_new wr [.int .i64 1, .int .i64 be] 48 rfl).alloc (.cells #[.int .i64 2, .int .i64 t, .int .i64 d, .int .i64 k, .string r] 26)).1 0 _ rfl
            have bsa := bs.alloc (.cells #[.int .i64 1, .int .i64 be] 48)
            have bsx := bsa.alloc (.cells #[.int .i64 2, .int .i64 t, .int .i64 d, .int .i64 k, .string r] 26)
            have btx := (bt.alloc (.cells #[.int .i64 1, .int .i64 be] 48)).alloc (.cells #[.int .i64 2, .int .i64 t, .int .i64 d, .int .i64 k, .string r] 26)
            have sa0 := bsa.1 0 _ rfl
            have sx0 := bsx.1 0 _ rfl
            have sa1 := bsa.1 1 _ rfl
            have sx1 := bsx.1 1 _ rfl
            have sa2 := bsa.1 2 _ rfl
            have sx2 := bsx.1 2 _ rfl
            have sa3 := bsa.1 3 _ rfl
            have sx3 := bsx.1 3 _ rfl
            have sa4 := bsa.1 4 _ rfl
            have sx4 := bsx.1 4 _ rfl
            have tx0 := btx.1 0 _ rfl
            have tx1 := btx.1 1 _ rfl
            have tx2 := btx.1 2 _ rfl
            have tx3 := btx.1 3 _ rfl
            clear bsa bsx btx
            clear hpz hrz hrl
            as_aux_lemma =>
              go_wp2_with (first
                | (go_at_call 20; refine (cO _).mono ?_; rintro e v1 ⟨rfl, hb⟩; clear sa0 sa1 sa2 sa3 sa4 sx0 sx1 sx2 sx3 sx4 tx0 tx1 tx2 tx3 aa1 ax0; have bt1 := ((bt.alloc (.cells #[.int .i64 1, .int .i64 be] 48)).alloc (.cells #[.int .i64 2, .int .i64 t, .int .i64 d, .int .i64 k, .string r] 26)).below hb; have bs1 := ((bs.alloc (.cells #[.int .i64 1, .int .i64 be] 48)).alloc (.cells #[.int .i64 2, .int .i64 t, .int .i64 d, .int .i64 k, .string r] 26)).below hb; have bx1 := (boxL_new (wr.alloc (.cells #[.int .i64 1, .int .i64 be] 48)) [.int .i64 2, .int .i64 t, .int .i64 d, .int .i64 k, .string r] 26 (h := wr.heap.size + 1) (by simp)).below hb; have hB1 := Below.tr ((hB.alloc hsz (.cells #[.int .i64 1, .int .i64 be] 48)).alloc (by simp; omega) (.cells #[.int .i64 2, .int .i64 t, .int .i64 d, .int .i64 k, .string r] 26)) hb; clear hb bt bs hB; generalize wr.heap.size + 1 = hx at *; have o0 := bx1.1 0 _ rfl; have o1 := bx1.1 1 _ rfl; have o2 := bx1.1 2 _ rfl; have o3 := bx1.1 3 _ rfl; have o4 := bx1.1 4 _ rfl; have f0 := bx1.2 0 (by simp); have f1 := bx1.2 1 (by simp); have f2 := bx1.2 2 (by simp); have f3 := bx1.2 3 (by simp); have f4 := bx1.2 4 (by simp); have bx := boxL_set5 bx1 (.int .i64 2) (.int .i64 t) (.int .i64 un) (.int .i64 k) (.string r); have bt := boxL_off5 bt1 n2 (.int .i64 2) (.int .i64 t) (.int .i64 un) (.int .i64 k) (.string r); have bs := boxL_off5 bs1 n1 (.int .i64 2) (.int .i64 t) (.int .i64 un) (.int .i64 k) (.string r); have hB := below_setT hB1 n3 (.int .i64 2) (.int .i64 t) (.int .i64 un) (.int .i64 k) (.string r); clear bx1 bt1 bs1 hB1)
                | (obtain ⟨U, hU⟩ : ∃ U, U = (((((v1.setCell ⟨hx, 0, none⟩ (.int .i64 2)).setCell ⟨hx, 1, none⟩ (.int .i64 t)).setCell ⟨hx, 2, none⟩ (.int .i64 un)).setCell ⟨hx, 3, none⟩ (.int .i64 k)).setCell ⟨hx, 4, none⟩ (.string r)) := ⟨_, rfl⟩; rw [← hU]; rw [← hU] at bx bt bs hB; clear hU o0 o1 o2 o3 o4 f0 f1 f2 f3 f4; have s0 := bs.1 0 _ rfl; have s1 := bs.1 1 _ rfl; have s2 := bs.1 2 _ rfl; have s3 := bs.1 3 _ rfl; have s4 := bs.1 4 _ rfl; have y0 := bx.1 0 _ rfl; have y1 := bx.1 1 _ rfl; have y2 := bx.1 2 _ rfl; have y3 := bx.1 3 _ rfl; have y4 := bx.1 4 _ rfl; have f0 := bx.2 0 (by simp); have f1 := bx.2 1 (by simp); have f2 := bx.2 2 (by simp); have f3 := bx.2 3 (by simp); have f4 := bx.2 4 (by simp); have x0 := bt.1 0 _ rfl; have x1 := bt.1 1 _ rfl; have x2 := bt.1 2 _ rfl; have x3 := bt.1 3 _ rfl; skip)
                | (go_at_call 10; refine (cQ _).mono ?_; rintro e v2 ⟨rfl, hb⟩; replace bx := bx.below hb; replace bt := bt.below hb; replace bs := bs.below hb; replace hB := Below.tr hB hb; clear hb s0 s1 s2 s3 s4 y0 y1 y2 y3 y4 x0 x1 x2 x3; have s0 := bs.1 0 _ rfl; have s1 := bs.1 1 _ rfl; have s2 := bs.1 2 _ rfl; have s3 := bs.1 3 _ rfl; have s4 := bs.1 4 _ rfl; have y0 := bx.1 0 _ rfl; have y1 := bx.1 1 _ rfl; have y2 := bx.1 2 _ rfl; have y3 := bx.1 3 _ rfl; have y4 := bx.1 4 _ rfl; have x0 := bt.1 0 _ rfl; have x1 := bt.1 1 _ rfl; have x2 := bt.1 2 _ rfl; have x3 := bt.1 3 _ rfl; skip)
                | (go_at_call 11; refine (cR _).mono ?_; rintro e v3 ⟨rfl, hb⟩; replace bx := bx.below hb; replace bt := bt.below hb; replace bs := bs.below hb; replace hB := Below.tr hB hb; clear hb s0 s1 s2 s3 s4 y0 y1 y2 y3 y4 x0 x1 x2 x3; have s0 := bs.1 0 _ rfl; have s1 := bs.1 1 _ rfl; have s2 := bs.1 2 _ rfl; have s3 := bs.1 3 _ rfl; have s4 := bs.1 4 _ rfl; have y0 := bx.1 0 _ rfl; have y1 := bx.1 1 _ rfl; have y2 := bx.1 2 _ rfl; have y3 := bx.1 3 _ rfl; have y4 := bx.1 4 _ rfl; have x0 := bt.1 0 _ rfl; have x1 := bt.1 1 _ rfl; have x2 := bt.1 2 _ rfl; have x3 := bt.1 3 _ rfl; have g0 := bs.2 0 (by simp); have g1 := bs.2 1 (by simp); have g2 := bs.2 2 (by simp); have g3 := bs.2 3 (by simp); have g4 := bs.2 4 (by simp); skip))
              all_goals go_roundw
              case rel => exact ⟨j + 1, N', 2, t, un, k, r, by omega, by omega, by go_num, rfl, rfl, hN'0, hN'1, HP, boxL_off5 bt n5 (.int .i64 2) (.int .i64 t) (.int .i64 un) (.int .i64 k) (.string r), boxL_set5 bs (.int .i64 2) (.int .i64 t) (.int .i64 un) (.int .i64 k) (.string r), below_setT hB n6 (.int .i64 2) (.int .i64 t) (.int .i64 un) (.int .i64 k) (.string r)⟩
              case measure => simp [intOf]; omega
          rw [show beatT le ⟨i, t, d, k, r⟩ N' = zeroT from if_neg hl, show heldE ⟨i, t, d, k, r⟩ = 191 from if_neg hl] at cO
          clear hl
          by_cases i3 : i = 3
          · subst i3
            have HP := HR
            have hpz := hrz
            replace cO : ∀ W, Calls Try.prog 20 #[.agg #[.slice ta tl tc, .int .i64 tr, .int .i64 wt, .int .i64 le], .agg #[.int .i64 3, .int .i64 t, .int .i64 d, .int .i64 k, .string r], .int .i64 N'] W fun e w' => e = .returned (.tuple #[.agg #[.int .i64 0, .int .i64 0, .int .i64 0, .int .i64 0, .string ⟨#[]⟩], .int .i64 191]) ∧ Below W.heap.size W w' := cO
            have cQ := fun W => rightT_any ta tl tc tr wt le 3 t d k r W hpz
            have cR := fun W => refRightT_any ta tl tc tr wt le 3 t d k r W hpz
            rw [HP.out] at cQ cR
            have aa1 := (boxL_new wr [.int .i64 1, .int .i64 be] 48 rfl).1 1 _ rfl
            have ax0 := ((boxL_new wr [.int .i64 1, .int .i64 be] 48 rfl).alloc (.cells #[.int .i64 3, .int .i64 t, .int .i64 d, .int .i64 k, .string r] 26)).1 0 _ rfl
            have bsa := bs.alloc (.cells #[.int .i64 1, .int .i64 be] 48)
            have bsx := bsa.alloc (.cells #[.int .i64 3, .int .i64 t, .int .i64 d, .int .i64 k, .string r] 26)
            have btx := (bt.alloc (.cells #[.int .i64 1, .int .i64 be] 48)).alloc (.cells #[.int .i64 3, .int .i64 t, .int .i64 d, .int .i64 k, .string r] 26)
            have sa0 := bsa.1 0 _ rfl
            have sx0 := bsx.1 0 _ rfl
            have sa1 := bsa.1 1 _ rfl
            have sx1 := bsx.1 1 _ rfl
            have sa2 := bsa.1 2 _ rfl
            have sx2 := bsx.1 2 _ rfl
            have sa3 := bsa.1 3 _ rfl
            have sx3 := bsx.1 3 _ rfl
            have sa4 := bsa.1 4 _ rfl
            have sx4 := bsx.1 4 _ rfl
            have tx0 := btx.1 0 _ rfl
            have tx1 := btx.1 1 _ rfl
            have tx2 := btx.1 2 _ rfl
            have tx3 := btx.1 3 _ rfl
            clear bsa bsx btx
            clear hpz hrz
            as_aux_lemma =>
              go_wp2_with (first
                | (go_at_call 20; refine (cO _).mono ?_; rintro e v1 ⟨rfl, hb⟩; clear sa0 sa1 sa2 sa3 sa4 sx0 sx1 sx2 sx3 sx4 tx0 tx1 tx2 tx3 aa1 ax0; have bt1 := ((bt.alloc (.cells #[.int .i64 1, .int .i64 be] 48)).alloc (.cells #[.int .i64 3, .int .i64 t, .int .i64 d, .int .i64 k, .string r] 26)).below hb; have bs1 := ((bs.alloc (.cells #[.int .i64 1, .int .i64 be] 48)).alloc (.cells #[.int .i64 3, .int .i64 t, .int .i64 d, .int .i64 k, .string r] 26)).below hb; have bx1 := (boxL_new (wr.alloc (.cells #[.int .i64 1, .int .i64 be] 48)) [.int .i64 3, .int .i64 t, .int .i64 d, .int .i64 k, .string r] 26 (h := wr.heap.size + 1) (by simp)).below hb; have hB1 := Below.tr ((hB.alloc hsz (.cells #[.int .i64 1, .int .i64 be] 48)).alloc (by simp; omega) (.cells #[.int .i64 3, .int .i64 t, .int .i64 d, .int .i64 k, .string r] 26)) hb; clear hb bt bs hB; generalize wr.heap.size + 1 = hx at *; have o0 := bx1.1 0 _ rfl; have o1 := bx1.1 1 _ rfl; have o2 := bx1.1 2 _ rfl; have o3 := bx1.1 3 _ rfl; have o4 := bx1.1 4 _ rfl; have f0 := bx1.2 0 (by simp); have f1 := bx1.2 1 (by simp); have f2 := bx1.2 2 (by simp); have f3 := bx1.2 3 (by simp); have f4 := bx1.2 4 (by simp); have bx := boxL_set5 bx1 (.int .i64 0) (.int .i64 0) (.int .i64 0) (.int .i64 0) (.string ⟨#[]⟩); have bt := boxL_off5 bt1 n2 (.int .i64 0) (.int .i64 0) (.int .i64 0) (.int .i64 0) (.string ⟨#[]⟩); have bs := boxL_off5 bs1 n1 (.int .i64 0) (.int .i64 0) (.int .i64 0) (.int .i64 0) (.string ⟨#[]⟩); have hB := below_setT hB1 n3 (.int .i64 0) (.int .i64 0) (.int .i64 0) (.int .i64 0) (.string ⟨#[]⟩); clear bx1 bt1 bs1 hB1)
                | (obtain ⟨U, hU⟩ : ∃ U, U = (((((v1.setCell ⟨hx, 0, none⟩ (.int .i64 0)).setCell ⟨hx, 1, none⟩ (.int .i64 0)).setCell ⟨hx, 2, none⟩ (.int .i64 0)).setCell ⟨hx, 3, none⟩ (.int .i64 0)).setCell ⟨hx, 4, none⟩ (.string ⟨#[]⟩)) := ⟨_, rfl⟩; rw [← hU]; rw [← hU] at bx bt bs hB; clear hU o0 o1 o2 o3 o4 f0 f1 f2 f3 f4; have s0 := bs.1 0 _ rfl; have s1 := bs.1 1 _ rfl; have s2 := bs.1 2 _ rfl; have s3 := bs.1 3 _ rfl; have s4 := bs.1 4 _ rfl; have y0 := bx.1 0 _ rfl; have y1 := bx.1 1 _ rfl; have y2 := bx.1 2 _ rfl; have y3 := bx.1 3 _ rfl; have y4 := bx.1 4 _ rfl; have f0 := bx.2 0 (by simp); have f1 := bx.2 1 (by simp); have f2 := bx.2 2 (by simp); have f3 := bx.2 3 (by simp); have f4 := bx.2 4 (by simp); have x0 := bt.1 0 _ rfl; have x1 := bt.1 1 _ rfl; have x2 := bt.1 2 _ rfl; have x3 := bt.1 3 _ rfl; skip)
                | (obtain ⟨U2, hU⟩ : ∃ U2, U2 = (((((U.setCell ⟨hx, 0, none⟩ (.int .i64 3)).setCell ⟨hx, 1, none⟩ (.int .i64 t)).setCell ⟨hx, 2, none⟩ (.int .i64 d)).setCell ⟨hx, 3, none⟩ (.int .i64 k)).setCell ⟨hx, 4, none⟩ (.string r)) := ⟨_, rfl⟩; rw [← hU]; have bx2 := boxL_set5 bx (.int .i64 3) (.int .i64 t) (.int .i64 d) (.int .i64 k) (.string r); have bt2 := boxL_off5 bt n2 (.int .i64 3) (.int .i64 t) (.int .i64 d) (.int .i64 k) (.string r); have bs2 := boxL_off5 bs n1 (.int .i64 3) (.int .i64 t) (.int .i64 d) (.int .i64 k) (.string r); have hB2 := below_setT hB n3 (.int .i64 3) (.int .i64 t) (.int .i64 d) (.int .i64 k) (.string r); rw [← hU] at bx2 bt2 bs2 hB2; clear hU bx bt bs hB s0 s1 s2 s3 s4 y0 y1 y2 y3 y4 f0 f1 f2 f3 f4 x0 x1 x2 x3; have bx := bx2; have bt := bt2; have bs := bs2; have hB := hB2; clear bx2 bt2 bs2 hB2; have s0 := bs.1 0 _ rfl; have s1 := bs.1 1 _ rfl; have s2 := bs.1 2 _ rfl; have s3 := bs.1 3 _ rfl; have s4 := bs.1 4 _ rfl; have y0 := bx.1 0 _ rfl; have y1 := bx.1 1 _ rfl; have y2 := bx.1 2 _ rfl; have y3 := bx.1 3 _ rfl; have y4 := bx.1 4 _ rfl; have x0 := bt.1 0 _ rfl; have x1 := bt.1 1 _ rfl; have x2 := bt.1 2 _ rfl; have x3 := bt.1 3 _ rfl; skip)
                | (go_at_call 10; refine (cQ _).mono ?_; rintro e v2 ⟨rfl, hb⟩; replace bx := bx.below hb; replace bt := bt.below hb; replace bs := bs.below hb; replace hB := Below.tr hB hb; clear hb s0 s1 s2 s3 s4 y0 y1 y2 y3 y4 x0 x1 x2 x3; have s0 := bs.1 0 _ rfl; have s1 := bs.1 1 _ rfl; have s2 := bs.1 2 _ rfl; have s3 := bs.1 3 _ rfl; have s4 := bs.1 4 _ rfl; have y0 := bx.1 0 _ rfl; have y1 := bx.1 1 _ rfl; have y2 := bx.1 2 _ rfl; have y3 := bx.1 3 _ rfl; have y4 := bx.1 4 _ rfl; have x0 := bt.1 0 _ rfl; have x1 := bt.1 1 _ rfl; have x2 := bt.1 2 _ rfl; have x3 := bt.1 3 _ rfl; skip)
                | (go_at_call 11; refine (cR _).mono ?_; rintro e v3 ⟨rfl, hb⟩; replace bx := bx.below hb; replace bt := bt.below hb; replace bs := bs.below hb; replace hB := Below.tr hB hb; clear hb s0 s1 s2 s3 s4 y0 y1 y2 y3 y4 x0 x1 x2 x3; have s0 := bs.1 0 _ rfl; have s1 := bs.1 1 _ rfl; have s2 := bs.1 2 _ rfl; have s3 := bs.1 3 _ rfl; have s4 := bs.1 4 _ rfl; have y0 := bx.1 0 _ rfl; have y1 := bx.1 1 _ rfl; have y2 := bx.1 2 _ rfl; have y3 := bx.1 3 _ rfl; have y4 := bx.1 4 _ rfl; have x0 := bt.1 0 _ rfl; have x1 := bt.1 1 _ rfl; have x2 := bt.1 2 _ rfl; have x3 := bt.1 3 _ rfl; have g0 := bs.2 0 (by simp); have g1 := bs.2 1 (by simp); have g2 := bs.2 2 (by simp); have g3 := bs.2 3 (by simp); have g4 := bs.2 4 (by simp); skip))
              all_goals go_roundw
              case rel => exact ⟨j + 1, N', 3, t, d, k, r, by omega, by omega, by go_num, rfl, rfl, hN'0, hN'1, HP, boxL_off5 bt n5 (.int .i64 3) (.int .i64 t) (.int .i64 d) (.int .i64 k) (.string r), boxL_set5 bs (.int .i64 3) (.int .i64 t) (.int .i64 d) (.int .i64 k) (.string r), below_setT hB n6 (.int .i64 3) (.int .i64 t) (.int .i64 d) (.int .i64 k) (.string r)⟩
              case measure => simp [intOf]; omega
          by_cases i4 : i = 4
          · subst i4
            have HP := HR
            have hpz := hrz
            replace cO : ∀ W, Calls Try.prog 20 #[.agg #[.slice ta tl tc, .int .i64 tr, .int .i64 wt, .int .i64 le], .agg #[.int .i64 4, .int .i64 t, .int .i64 d, .int .i64 k, .string r], .int .i64 N'] W fun e w' => e = .returned (.tuple #[.agg #[.int .i64 0, .int .i64 0, .int .i64 0, .int .i64 0, .string ⟨#[]⟩], .int .i64 191]) ∧ Below W.heap.size W w' := cO
            have cQ := fun W => rightT_any ta tl tc tr wt le 4 t d k r W hpz
            have cR := fun W => refRightT_any ta tl tc tr wt le 4 t d k r W hpz
            rw [HP.out] at cQ cR
            have aa1 := (boxL_new wr [.int .i64 1, .int .i64 be] 48 rfl).1 1 _ rfl
            have ax0 := ((boxL_new wr [.int .i64 1, .int .i64 be] 48 rfl).alloc (.cells #[.int .i64 4, .int .i64 t, .int .i64 d, .int .i64 k, .string r] 26)).1 0 _ rfl
            have bsa := bs.alloc (.cells #[.int .i64 1, .int .i64 be] 48)
            have bsx := bsa.alloc (.cells #[.int .i64 4, .int .i64 t, .int .i64 d, .int .i64 k, .string r] 26)
            have btx := (bt.alloc (.cells #[.int .i64 1, .int .i64 be] 48)).alloc (.cells #[.int .i64 4, .int .i64 t, .int .i64 d, .int .i64 k, .string r] 26)
            have sa0 := bsa.1 0 _ rfl
            have sx0 := bsx.1 0 _ rfl
            have sa1 := bsa.1 1 _ rfl
            have sx1 := bsx.1 1 _ rfl
            have sa2 := bsa.1 2 _ rfl
            have sx2 := bsx.1 2 _ rfl
            have sa3 := bsa.1 3 _ rfl
            have sx3 := bsx.1 3 _ rfl
            have sa4 := bsa.1 4 _ rfl
            have sx4 := bsx.1 4 _ rfl
            have tx0 := btx.1 0 _ rfl
            have tx1 := btx.1 1 _ rfl
            have tx2 := btx.1 2 _ rfl
            have tx3 := btx.1 3 _ rfl
            clear bsa bsx btx
            clear hpz hrz
            as_aux_lemma =>
              go_wp2_with (first
                | (go_at_call 20; refine (cO _).mono ?_; rintro e v1 ⟨rfl, hb⟩; clear sa0 sa1 sa2 sa3 sa4 sx0 sx1 sx2 sx3 sx4 tx0 tx1 tx2 tx3 aa1 ax0; have bt1 := ((bt.alloc (.cells #[.int .i64 1, .int .i64 be] 48)).alloc (.cells #[.int .i64 4, .int .i64 t, .int .i64 d, .int .i64 k, .string r] 26)).below hb; have bs1 := ((bs.alloc (.cells #[.int .i64 1, .int .i64 be] 48)).alloc (.cells #[.int .i64 4, .int .i64 t, .int .i64 d, .int .i64 k, .string r] 26)).below hb; have bx1 := (boxL_new (wr.alloc (.cells #[.int .i64 1, .int .i64 be] 48)) [.int .i64 4, .int .i64 t, .int .i64 d, .int .i64 k, .string r] 26 (h := wr.heap.size + 1) (by simp)).below hb; have hB1 := Below.tr ((hB.alloc hsz (.cells #[.int .i64 1, .int .i64 be] 48)).alloc (by simp; omega) (.cells #[.int .i64 4, .int .i64 t, .int .i64 d, .int .i64 k, .string r] 26)) hb; clear hb bt bs hB; generalize wr.heap.size + 1 = hx at *; have o0 := bx1.1 0 _ rfl; have o1 := bx1.1 1 _ rfl; have o2 := bx1.1 2 _ rfl; have o3 := bx1.1 3 _ rfl; have o4 := bx1.1 4 _ rfl; have f0 := bx1.2 0 (by simp); have f1 := bx1.2 1 (by simp); have f2 := bx1.2 2 (by simp); have f3 := bx1.2 3 (by simp); have f4 := bx1.2 4 (by simp); have bx := boxL_set5 bx1 (.int .i64 0) (.int .i64 0) (.int .i64 0) (.int .i64 0) (.string ⟨#[]⟩); have bt := boxL_off5 bt1 n2 (.int .i64 0) (.int .i64 0) (.int .i64 0) (.int .i64 0) (.string ⟨#[]⟩); have bs := boxL_off5 bs1 n1 (.int .i64 0) (.int .i64 0) (.int .i64 0) (.int .i64 0) (.string ⟨#[]⟩); have hB := below_setT hB1 n3 (.int .i64 0) (.int .i64 0) (.int .i64 0) (.int .i64 0) (.string ⟨#[]⟩); clear bx1 bt1 bs1 hB1)
                | (obtain ⟨U, hU⟩ : ∃ U, U = (((((v1.setCell ⟨hx, 0, none⟩ (.int .i64 0)).setCell ⟨hx, 1, none⟩ (.int .i64 0)).setCell ⟨hx, 2, none⟩ (.int .i64 0)).setCell ⟨hx, 3, none⟩ (.int .i64 0)).setCell ⟨hx, 4, none⟩ (.string ⟨#[]⟩)) := ⟨_, rfl⟩; rw [← hU]; rw [← hU] at bx bt bs hB; clear hU o0 o1 o2 o3 o4 f0 f1 f2 f3 f4; have s0 := bs.1 0 _ rfl; have s1 := bs.1 1 _ rfl; have s2 := bs.1 2 _ rfl; have s3 := bs.1 3 _ rfl; have s4 := bs.1 4 _ rfl; have y0 := bx.1 0 _ rfl; have y1 := bx.1 1 _ rfl; have y2 := bx.1 2 _ rfl; have y3 := bx.1 3 _ rfl; have y4 := bx.1 4 _ rfl; have f0 := bx.2 0 (by simp); have f1 := bx.2 1 (by simp); have f2 := bx.2 2 (by simp); have f3 := bx.2 3 (by simp); have f4 := bx.2 4 (by simp); have x0 := bt.1 0 _ rfl; have x1 := bt.1 1 _ rfl; have x2 := bt.1 2 _ rfl; have x3 := bt.1 3 _ rfl; skip)
                | (obtain ⟨U2, hU⟩ : ∃ U2, U2 = (((((U.setCell ⟨hx, 0, none⟩ (.int .i64 4)).setCell ⟨hx, 1, none⟩ (.int .i64 t)).setCell ⟨hx, 2, none⟩ (.int .i64 d)).setCell ⟨hx, 3, none⟩ (.int .i64 k)).setCell ⟨hx, 4, none⟩ (.string r)) := ⟨_, rfl⟩; rw [← hU]; have bx2 := boxL_set5 bx (.int .i64 4) (.int .i64 t) (.int .i64 d) (.int .i64 k) (.string r); have bt2 := boxL_off5 bt n2 (.int .i64 4) (.int .i64 t) (.int .i64 d) (.int .i64 k) (.string r); have bs2 := boxL_off5 bs n1 (.int .i64 4) (.int .i64 t) (.int .i64 d) (.int .i64 k) (.string r); have hB2 := below_setT hB n3 (.int .i64 4) (.int .i64 t) (.int .i64 d) (.int .i64 k) (.string r); rw [← hU] at bx2 bt2 bs2 hB2; clear hU bx bt bs hB s0 s1 s2 s3 s4 y0 y1 y2 y3 y4 f0 f1 f2 f3 f4 x0 x1 x2 x3; have bx := bx2; have bt := bt2; have bs := bs2; have hB := hB2; clear bx2 bt2 bs2 hB2; have s0 := bs.1 0 _ rfl; have s1 := bs.1 1 _ rfl; have s2 := bs.1 2 _ rfl; have s3 := bs.1 3 _ rfl; have s4 := bs.1 4 _ rfl; have y0 := bx.1 0 _ rfl; have y1 := bx.1 1 _ rfl; have y2 := bx.1 2 _ rfl; have y3 := bx.1 3 _ rfl; have y4 := bx.1 4 _ rfl; have x0 := bt.1 0 _ rfl; have x1 := bt.1 1 _ rfl; have x2 := bt.1 2 _ rfl; have x3 := bt.1 3 _ rfl; skip)
                | (go_at_call 10; refine (cQ _).mono ?_; rintro e v2 ⟨rfl, hb⟩; replace bx := bx.below hb; replace bt := bt.below hb; replace bs := bs.below hb; replace hB := Below.tr hB hb; clear hb s0 s1 s2 s3 s4 y0 y1 y2 y3 y4 x0 x1 x2 x3; have s0 := bs.1 0 _ rfl; have s1 := bs.1 1 _ rfl; have s2 := bs.1 2 _ rfl; have s3 := bs.1 3 _ rfl; have s4 := bs.1 4 _ rfl; have y0 := bx.1 0 _ rfl; have y1 := bx.1 1 _ rfl; have y2 := bx.1 2 _ rfl; have y3 := bx.1 3 _ rfl; have y4 := bx.1 4 _ rfl; have x0 := bt.1 0 _ rfl; have x1 := bt.1 1 _ rfl; have x2 := bt.1 2 _ rfl; have x3 := bt.1 3 _ rfl; skip)
                | (go_at_call 11; refine (cR _).mono ?_; rintro e v3 ⟨rfl, hb⟩; replace bx := bx.below hb; replace bt := bt.below hb; replace bs := bs.below hb; replace hB := Below.tr hB hb; clear hb s0 s1 s2 s3 s4 y0 y1 y2 y3 y4 x0 x1 x2 x3; have s0 := bs.1 0 _ rfl; have s1 := bs.1 1 _ rfl; have s2 := bs.1 2 _ rfl; have s3 := bs.1 3 _ rfl; have s4 := bs.1 4 _ rfl; have y0 := bx.1 0 _ rfl; have y1 := bx.1 1 _ rfl; have y2 := bx.1 2 _ rfl; have y3 := bx.1 3 _ rfl; have y4 := bx.1 4 _ rfl; have x0 := bt.1 0 _ rfl; have x1 := bt.1 1 _ rfl; have x2 := bt.1 2 _ rfl; have x3 := bt.1 3 _ rfl; have g0 := bs.2 0 (by simp); have g1 := bs.2 1 (by simp); have g2 := bs.2 2 (by simp); have g3 := bs.2 3 (by simp); have g4 := bs.2 4 (by simp); skip))
              all_goals go_roundw
              case rel => exact ⟨j + 1, N', 4, t, d, k, r, by omega, by omega, by go_num, rfl, rfl, hN'0, hN'1, HP, boxL_off5 bt n5 (.int .i64 4) (.int .i64 t) (.int .i64 d) (.int .i64 k) (.string r), boxL_set5 bs (.int .i64 4) (.int .i64 t) (.int .i64 d) (.int .i64 k) (.string r), below_setT hB n6 (.int .i64 4) (.int .i64 t) (.int .i64 d) (.int .i64 k) (.string r)⟩
              case measure => simp [intOf]; omega
          by_cases i5 : i = 5
          · subst i5
            have HP := HR
            have hpz := hrz
            replace cO : ∀ W, Calls Try.prog 20 #[.agg #[.slice ta tl tc, .int .i64 tr, .int .i64 wt, .int .i64 le], .agg #[.int .i64 5, .int .i64 t, .int .i64 d, .int .i64 k, .string r], .int .i64 N'] W fun e w' => e = .returned (.tuple #[.agg #[.int .i64 0, .int .i64 0, .int .i64 0, .int .i64 0, .string ⟨#[]⟩], .int .i64 191]) ∧ Below W.heap.size W w' := cO
            have cQ := fun W => rightT_any ta tl tc tr wt le 5 t d k r W hpz
            have cR := fun W => refRightT_any ta tl tc tr wt le 5 t d k r W hpz
            rw [HP.out] at cQ cR
            have aa1 := (boxL_new wr [.int .i64 1, .int .i64 be] 48 rfl).1 1 _ rfl
            have ax0 := ((boxL_new wr [.int .i64 1, .int .i64 be] 48 rfl).alloc (.cells #[.int .i64 5, .int .i64 t, .int .i64 d, .int .i64 k, .string r] 26)).1 0 _ rfl
            have bsa := bs.alloc (.cells #[.int .i64 1, .int .i64 be] 48)
            have bsx := bsa.alloc (.cells #[.int .i64 5, .int .i64 t, .int .i64 d, .int .i64 k, .string r] 26)
            have btx := (bt.alloc (.cells #[.int .i64 1, .int .i64 be] 48)).alloc (.cells #[.int .i64 5, .int .i64 t, .int .i64 d, .int .i64 k, .string r] 26)
            have sa0 := bsa.1 0 _ rfl
            have sx0 := bsx.1 0 _ rfl
            have sa1 := bsa.1 1 _ rfl
            have sx1 := bsx.1 1 _ rfl
            have sa2 := bsa.1 2 _ rfl
            have sx2 := bsx.1 2 _ rfl
            have sa3 := bsa.1 3 _ rfl
            have sx3 := bsx.1 3 _ rfl
            have sa4 := bsa.1 4 _ rfl
            have sx4 := bsx.1 4 _ rfl
            have tx0 := btx.1 0 _ rfl
            have tx1 := btx.1 1 _ rfl
            have tx2 := btx.1 2 _ rfl
            have tx3 := btx.1 3 _ rfl
            clear bsa bsx btx
            clear hpz hrz
            as_aux_lemma =>
              go_wp2_with (first
                | (go_at_call 20; refine (cO _).mono ?_; rintro e v1 ⟨rfl, hb⟩; clear sa0 sa1 sa2 sa3 sa4 sx0 sx1 sx2 sx3 sx4 tx0 tx1 tx2 tx3 aa1 ax0; have bt1 := ((bt.alloc (.cells #[.int .i64 1, .int .i64 be] 48)).alloc (.cells #[.int .i64 5, .int .i64 t, .int .i64 d, .int .i64 k, .string r] 26)).below hb; have bs1 := ((bs.alloc (.cells #[.int .i64 1, .int .i64 be] 48)).alloc (.cells #[.int .i64 5, .int .i64 t, .int .i64 d, .int .i64 k, .string r] 26)).below hb; have bx1 := (boxL_new (wr.alloc (.cells #[.int .i64 1, .int .i64 be] 48)) [.int .i64 5, .int .i64 t, .int .i64 d, .int .i64 k, .string r] 26 (h := wr.heap.size + 1) (by simp)).below hb; have hB1 := Below.tr ((hB.alloc hsz (.cells #[.int .i64 1, .int .i64 be] 48)).alloc (by simp; omega) (.cells #[.int .i64 5, .int .i64 t, .int .i64 d, .int .i64 k, .string r] 26)) hb; clear hb bt bs hB; generalize wr.heap.size + 1 = hx at *; have o0 := bx1.1 0 _ rfl; have o1 := bx1.1 1 _ rfl; have o2 := bx1.1 2 _ rfl; have o3 := bx1.1 3 _ rfl; have o4 := bx1.1 4 _ rfl; have f0 := bx1.2 0 (by simp); have f1 := bx1.2 1 (by simp); have f2 := bx1.2 2 (by simp); have f3 := bx1.2 3 (by simp); have f4 := bx1.2 4 (by simp); have bx := boxL_set5 bx1 (.int .i64 0) (.int .i64 0) (.int .i64 0) (.int .i64 0) (.string ⟨#[]⟩); have bt := boxL_off5 bt1 n2 (.int .i64 0) (.int .i64 0) (.int .i64 0) (.int .i64 0) (.string ⟨#[]⟩); have bs := boxL_off5 bs1 n1 (.int .i64 0) (.int .i64 0) (.int .i64 0) (.int .i64 0) (.string ⟨#[]⟩); have hB := below_setT hB1 n3 (.int .i64 0) (.int .i64 0) (.int .i64 0) (.int .i64 0) (.string ⟨#[]⟩); clear bx1 bt1 bs1 hB1)
                | (obtain ⟨U, hU⟩ : ∃ U, U = (((((v1.setCell ⟨hx, 0, none⟩ (.int .i64 0)).setCell ⟨hx, 1, none⟩ (.int .i64 0)).setCell ⟨hx, 2, none⟩ (.int .i64 0)).setCell ⟨hx, 3, none⟩ (.int .i64 0)).setCell ⟨hx, 4, none⟩ (.string ⟨#[]⟩)) := ⟨_, rfl⟩; rw [← hU]; rw [← hU] at bx bt bs hB; clear hU o0 o1 o2 o3 o4 f0 f1 f2 f3 f4; have s0 := bs.1 0 _ rfl; have s1 := bs.1 1 _ rfl; have s2 := bs.1 2 _ rfl; have s3 := bs.1 3 _ rfl; have s4 := bs.1 4 _ rfl; have y0 := bx.1 0 _ rfl; have y1 := bx.1 1 _ rfl; have y2 := bx.1 2 _ rfl; have y3 := bx.1 3 _ rfl; have y4 := bx.1 4 _ rfl; have f0 := bx.2 0 (by simp); have f1 := bx.2 1 (by simp); have f2 := bx.2 2 (by simp); have f3 := bx.2 3 (by simp); have f4 := bx.2 4 (by simp); have x0 := bt.1 0 _ rfl; have x1 := bt.1 1 _ rfl; have x2 := bt.1 2 _ rfl; have x3 := bt.1 3 _ rfl; skip)
                | (obtain ⟨U2, hU⟩ : ∃ U2, U2 = (((((U.setCell ⟨hx, 0, none⟩ (.int .i64 5)).setCell ⟨hx, 1, none⟩ (.int .i64 t)).setCell ⟨hx, 2, none⟩ (.int .i64 d)).setCell ⟨hx, 3, none⟩ (.int .i64 k)).setCell ⟨hx, 4, none⟩ (.string r)) := ⟨_, rfl⟩; rw [← hU]; have bx2 := boxL_set5 bx (.int .i64 5) (.int .i64 t) (.int .i64 d) (.int .i64 k) (.string r); have bt2 := boxL_off5 bt n2 (.int .i64 5) (.int .i64 t) (.int .i64 d) (.int .i64 k) (.string r); have bs2 := boxL_off5 bs n1 (.int .i64 5) (.int .i64 t) (.int .i64 d) (.int .i64 k) (.string r); have hB2 := below_setT hB n3 (.int .i64 5) (.int .i64 t) (.int .i64 d) (.int .i64 k) (.string r); rw [← hU] at bx2 bt2 bs2 hB2; clear hU bx bt bs hB s0 s1 s2 s3 s4 y0 y1 y2 y3 y4 f0 f1 f2 f3 f4 x0 x1 x2 x3; have bx := bx2; have bt := bt2; have bs := bs2; have hB := hB2; clear bx2 bt2 bs2 hB2; have s0 := bs.1 0 _ rfl; have s1 := bs.1 1 _ rfl; have s2 := bs.1 2 _ rfl; have s3 := bs.1 3 _ rfl; have s4 := bs.1 4 _ rfl; have y0 := bx.1 0 _ rfl; have y1 := bx.1 1 _ rfl; have y2 := bx.1 2 _ rfl; have y3 := bx.1 3 _ rfl; have y4 := bx.1 4 _ rfl; have x0 := bt.1 0 _ rfl; have x1 := bt.1 1 _ rfl; have x2 := bt.1 2 _ rfl; have x3 := bt.1 3 _ rfl; skip)
                | (go_at_call 10; refine (cQ _).mono ?_; rintro e v2 ⟨rfl, hb⟩; replace bx := bx.below hb; replace bt := bt.below hb; replace bs := bs.below hb; replace hB := Below.tr hB hb; clear hb s0 s1 s2 s3 s4 y0 y1 y2 y3 y4 x0 x1 x2 x3; have s0 := bs.1 0 _ rfl; have s1 := bs.1 1 _ rfl; have s2 := bs.1 2 _ rfl; have s3 := bs.1 3 _ rfl; have s4 := bs.1 4 _ rfl; have y0 := bx.1 0 _ rfl; have y1 := bx.1 1 _ rfl; have y2 := bx.1 2 _ rfl; have y3 := bx.1 3 _ rfl; have y4 := bx.1 4 _ rfl; have x0 := bt.1 0 _ rfl; have x1 := bt.1 1 _ rfl; have x2 := bt.1 2 _ rfl; have x3 := bt.1 3 _ rfl; skip)
                | (go_at_call 11; refine (cR _).mono ?_; rintro e v3 ⟨rfl, hb⟩; replace bx := bx.below hb; replace bt := bt.below hb; replace bs := bs.below hb; replace hB := Below.tr hB hb; clear hb s0 s1 s2 s3 s4 y0 y1 y2 y3 y4 x0 x1 x2 x3; have s0 := bs.1 0 _ rfl; have s1 := bs.1 1 _ rfl; have s2 := bs.1 2 _ rfl; have s3 := bs.1 3 _ rfl; have s4 := bs.1 4 _ rfl; have y0 := bx.1 0 _ rfl; have y1 := bx.1 1 _ rfl; have y2 := bx.1 2 _ rfl; have y3 := bx.1 3 _ rfl; have y4 := bx.1 4 _ rfl; have x0 := bt.1 0 _ rfl; have x1 := bt.1 1 _ rfl; have x2 := bt.1 2 _ rfl; have x3 := bt.1 3 _ rfl; have g0 := bs.2 0 (by simp); have g1 := bs.2 1 (by simp); have g2 := bs.2 2 (by simp); have g3 := bs.2 3 (by simp); have g4 := bs.2 4 (by simp); skip))
              all_goals go_roundw
              case rel => exact ⟨j + 1, N', 5, t, d, k, r, by omega, by omega, by go_num, rfl, rfl, hN'0, hN'1, HP, boxL_off5 bt n5 (.int .i64 5) (.int .i64 t) (.int .i64 d) (.int .i64 k) (.string r), boxL_set5 bs (.int .i64 5) (.int .i64 t) (.int .i64 d) (.int .i64 k) (.string r), below_setT hB n6 (.int .i64 5) (.int .i64 t) (.int .i64 d) (.int .i64 k) (.string r)⟩
              case measure => simp [intOf]; omega
          have g3 : (i == 3) = false := by simpa using i3
          have g4 : (i == 4) = false := by simpa using i4
          have g5 : (i == 5) = false := by simpa using i5
          clear i3 i4 i5
          have HP := HR
          have hpz := hrz
          replace cO : ∀ W, Calls Try.prog 20 #[.agg #[.slice ta tl tc, .int .i64 tr, .int .i64 wt, .int .i64 le], .agg #[.int .i64 i, .int .i64 t, .int .i64 d, .int .i64 k, .string r], .int .i64 N'] W fun e w' => e = .returned (.tuple #[.agg #[.int .i64 0, .int .i64 0, .int .i64 0, .int .i64 0, .string ⟨#[]⟩], .int .i64 191]) ∧ Below W.heap.size W w' := cO
          have cQ := fun W => rightT_any ta tl tc tr wt le i t d k r W hpz
          have cR := fun W => refRightT_any ta tl tc tr wt le i t d k r W hpz
          rw [HP.out] at cQ cR
          have aa1 := (boxL_new wr [.int .i64 1, .int .i64 be] 48 rfl).1 1 _ rfl
          have ax0 := ((boxL_new wr [.int .i64 1, .int .i64 be] 48 rfl).alloc (.cells #[.int .i64 i, .int .i64 t, .int .i64 d, .int .i64 k, .string r] 26)).1 0 _ rfl
          have bsa := bs.alloc (.cells #[.int .i64 1, .int .i64 be] 48)
          have bsx := bsa.alloc (.cells #[.int .i64 i, .int .i64 t, .int .i64 d, .int .i64 k, .string r] 26)
          have btx := (bt.alloc (.cells #[.int .i64 1, .int .i64 be] 48)).alloc (.cells #[.int .i64 i, .int .i64 t, .int .i64 d, .int .i64 k, .string r] 26)
          have sa0 := bsa.1 0 _ rfl
          have sx0 := bsx.1 0 _ rfl
          have sa1 := bsa.1 1 _ rfl
          have sx1 := bsx.1 1 _ rfl
          have sa2 := bsa.1 2 _ rfl
          have sx2 := bsx.1 2 _ rfl
          have sa3 := bsa.1 3 _ rfl
          have sx3 := bsx.1 3 _ rfl
          have sa4 := bsa.1 4 _ rfl
          have sx4 := bsx.1 4 _ rfl
          have tx0 := btx.1 0 _ rfl
          have tx1 := btx.1 1 _ rfl
          have tx2 := btx.1 2 _ rfl
          have tx3 := btx.1 3 _ rfl
          clear bsa bsx btx
          clear hpz hrz
          as_aux_lemma =>
            go_wp2_with (first
              | (go_at_call 20; refine (cO _).mono ?_; rintro e v1 ⟨rfl, hb⟩; clear sa0 sa1 sa2 sa3 sa4 sx0 sx1 sx2 sx3 sx4 tx0 tx1 tx2 tx3 aa1 ax0; have bt1 := ((bt.alloc (.cells #[.int .i64 1, .int .i64 be] 48)).alloc (.cells #[.int .i64 i, .int .i64 t, .int .i64 d, .int .i64 k, .string r] 26)).below hb; have bs1 := ((bs.alloc (.cells #[.int .i64 1, .int .i64 be] 48)).alloc (.cells #[.int .i64 i, .int .i64 t, .int .i64 d, .int .i64 k, .string r] 26)).below hb; have bx1 := (boxL_new (wr.alloc (.cells #[.int .i64 1, .int .i64 be] 48)) [.int .i64 i, .int .i64 t, .int .i64 d, .int .i64 k, .string r] 26 (h := wr.heap.size + 1) (by simp)).below hb; have hB1 := Below.tr ((hB.alloc hsz (.cells #[.int .i64 1, .int .i64 be] 48)).alloc (by simp; omega) (.cells #[.int .i64 i, .int .i64 t, .int .i64 d, .int .i64 k, .string r] 26)) hb; clear hb bt bs hB; generalize wr.heap.size + 1 = hx at *; have o0 := bx1.1 0 _ rfl; have o1 := bx1.1 1 _ rfl; have o2 := bx1.1 2 _ rfl; have o3 := bx1.1 3 _ rfl; have o4 := bx1.1 4 _ rfl; have f0 := bx1.2 0 (by simp); have f1 := bx1.2 1 (by simp); have f2 := bx1.2 2 (by simp); have f3 := bx1.2 3 (by simp); have f4 := bx1.2 4 (by simp); have bx := boxL_set5 bx1 (.int .i64 0) (.int .i64 0) (.int .i64 0) (.int .i64 0) (.string ⟨#[]⟩); have bt := boxL_off5 bt1 n2 (.int .i64 0) (.int .i64 0) (.int .i64 0) (.int .i64 0) (.string ⟨#[]⟩); have bs := boxL_off5 bs1 n1 (.int .i64 0) (.int .i64 0) (.int .i64 0) (.int .i64 0) (.string ⟨#[]⟩); have hB := below_setT hB1 n3 (.int .i64 0) (.int .i64 0) (.int .i64 0) (.int .i64 0) (.string ⟨#[]⟩); clear bx1 bt1 bs1 hB1)
              | (obtain ⟨U, hU⟩ : ∃ U, U = (((((v1.setCell ⟨hx, 0, none⟩ (.int .i64 0)).setCell ⟨hx, 1, none⟩ (.int .i64 0)).setCell ⟨hx, 2, none⟩ (.int .i64 0)).setCell ⟨hx, 3, none⟩ (.int .i64 0)).setCell ⟨hx, 4, none⟩ (.string ⟨#[]⟩)) := ⟨_, rfl⟩; rw [← hU]; rw [← hU] at bx bt bs hB; clear hU o0 o1 o2 o3 o4 f0 f1 f2 f3 f4; have s0 := bs.1 0 _ rfl; have s1 := bs.1 1 _ rfl; have s2 := bs.1 2 _ rfl; have s3 := bs.1 3 _ rfl; have s4 := bs.1 4 _ rfl; have y0 := bx.1 0 _ rfl; have y1 := bx.1 1 _ rfl; have y2 := bx.1 2 _ rfl; have y3 := bx.1 3 _ rfl; have y4 := bx.1 4 _ rfl; have f0 := bx.2 0 (by simp); have f1 := bx.2 1 (by simp); have f2 := bx.2 2 (by simp); have f3 := bx.2 3 (by simp); have f4 := bx.2 4 (by simp); have x0 := bt.1 0 _ rfl; have x1 := bt.1 1 _ rfl; have x2 := bt.1 2 _ rfl; have x3 := bt.1 3 _ rfl; skip)
              | (obtain ⟨U2, hU⟩ : ∃ U2, U2 = (((((U.setCell ⟨hx, 0, none⟩ (.int .i64 i)).setCell ⟨hx, 1, none⟩ (.int .i64 t)).setCell ⟨hx, 2, none⟩ (.int .i64 d)).setCell ⟨hx, 3, none⟩ (.int .i64 k)).setCell ⟨hx, 4, none⟩ (.string r)) := ⟨_, rfl⟩; rw [← hU]; have bx2 := boxL_set5 bx (.int .i64 i) (.int .i64 t) (.int .i64 d) (.int .i64 k) (.string r); have bt2 := boxL_off5 bt n2 (.int .i64 i) (.int .i64 t) (.int .i64 d) (.int .i64 k) (.string r); have bs2 := boxL_off5 bs n1 (.int .i64 i) (.int .i64 t) (.int .i64 d) (.int .i64 k) (.string r); have hB2 := below_setT hB n3 (.int .i64 i) (.int .i64 t) (.int .i64 d) (.int .i64 k) (.string r); rw [← hU] at bx2 bt2 bs2 hB2; clear hU bx bt bs hB s0 s1 s2 s3 s4 y0 y1 y2 y3 y4 f0 f1 f2 f3 f4 x0 x1 x2 x3; have bx := bx2; have bt := bt2; have bs := bs2; have hB := hB2; clear bx2 bt2 bs2 hB2; have s0 := bs.1 0 _ rfl; have s1 := bs.1 1 _ rfl; have s2 := bs.1 2 _ rfl; have s3 := bs.1 3 _ rfl; have s4 := bs.1 4 _ rfl; have y0 := bx.1 0 _ rfl; have y1 := bx.1 1 _ rfl; have y2 := bx.1 2 _ rfl; have y3 := bx.1 3 _ rfl; have y4 := bx.1 4 _ rfl; have x0 := bt.1 0 _ rfl; have x1 := bt.1 1 _ rfl; have x2 := bt.1 2 _ rfl; have x3 := bt.1 3 _ rfl; skip)
              | (go_at_call 10; refine (cQ _).mono ?_; rintro e v2 ⟨rfl, hb⟩; replace bx := bx.below hb; replace bt := bt.below hb; replace bs := bs.below hb; replace hB := Below.tr hB hb; clear hb s0 s1 s2 s3 s4 y0 y1 y2 y3 y4 x0 x1 x2 x3; have s0 := bs.1 0 _ rfl; have s1 := bs.1 1 _ rfl; have s2 := bs.1 2 _ rfl; have s3 := bs.1 3 _ rfl; have s4 := bs.1 4 _ rfl; have y0 := bx.1 0 _ rfl; have y1 := bx.1 1 _ rfl; have y2 := bx.1 2 _ rfl; have y3 := bx.1 3 _ rfl; have y4 := bx.1 4 _ rfl; have x0 := bt.1 0 _ rfl; have x1 := bt.1 1 _ rfl; have x2 := bt.1 2 _ rfl; have x3 := bt.1 3 _ rfl; skip)
              | (go_at_call 11; refine (cR _).mono ?_; rintro e v3 ⟨rfl, hb⟩; replace bx := bx.below hb; replace bt := bt.below hb; replace bs := bs.below hb; replace hB := Below.tr hB hb; clear hb s0 s1 s2 s3 s4 y0 y1 y2 y3 y4 x0 x1 x2 x3; have s0 := bs.1 0 _ rfl; have s1 := bs.1 1 _ rfl; have s2 := bs.1 2 _ rfl; have s3 := bs.1 3 _ rfl; have s4 := bs.1 4 _ rfl; have y0 := bx.1 0 _ rfl; have y1 := bx.1 1 _ rfl; have y2 := bx.1 2 _ rfl; have y3 := bx.1 3 _ rfl; have y4 := bx.1 4 _ rfl; have x0 := bt.1 0 _ rfl; have x1 := bt.1 1 _ rfl; have x2 := bt.1 2 _ rfl; have x3 := bt.1 3 _ rfl; have g0 := bs.2 0 (by simp); have g1 := bs.2 1 (by simp); have g2 := bs.2 2 (by simp); have g3 := bs.2 3 (by simp); have g4 := bs.2 4 (by simp); skip))
            all_goals go_roundw
            case rel => exact ⟨j + 1, N', i, t, d, k, r, by omega, by omega, by go_num, rfl, rfl, hN'0, hN'1, HP, boxL_off5 bt n5 (.int .i64 i) (.int .i64 t) (.int .i64 d) (.int .i64 k) (.string r), boxL_set5 bs (.int .i64 i) (.int .i64 t) (.int .i64 d) (.int .i64 k) (.string r), below_setT hB n6 (.int .i64 i) (.int .i64 t) (.int .i64 d) (.int .i64 k) (.string r)⟩
            case measure => simp [intOf]; omega
        by_cases q2 : wh = 2
        · subst q2
          clear q0 q1
          have cO := fun W => doneT_any ta tl tc tr wt le i t d k r ⟨#[114]⟩ W (show (1 : Nat) ≤ maxLen by decide)
          by_cases hl : i = 2
          · subst hl
            have hrl := (right_done (x := ⟨#[114]⟩) HR.out rfl (by decide)).1
            rw [show doneT ⟨2, t, d, k, r⟩ ⟨#[114]⟩ = ⟨3, t, 0, 0, ⟨#[114]⟩⟩ from rfl] at cO hrl
            rw [show doneE ⟨2, t, d, k, r⟩ ⟨#[114]⟩ = 0 from rfl] at cO
            have HP : Hid (rightT tr ⟨3, t, 0, 0, (⟨#[114]⟩ : ByteArray)⟩ = true) := hrl
            have hpz : (⟨#[114]⟩ : ByteArray).size ≤ maxLen := (show (1 : Nat) ≤ maxLen by decide)
            have htq := ((restL_iff _ _ _ _ _ _).1 (right_parts HP.out).2).1
            replace cO : ∀ W, Calls Try.prog 22 #[.agg #[.slice ta tl tc, .int .i64 tr, .int .i64 wt, .int .i64 le], .agg #[.int .i64 2, .int .i64 t, .int .i64 d, .int .i64 k, .string r], .string ⟨#[114]⟩] W fun e w' => e = .returned (.tuple #[.agg #[.int .i64 3, .int .i64 t, .int .i64 0, .int .i64 0, .string (⟨#[114]⟩ : ByteArray)], .int .i64 0]) ∧ Below W.heap.size W w' := cO
            have cQ := fun W => rightT_any ta tl tc tr wt le 3 t 0 0 (⟨#[114]⟩ : ByteArray) W hpz
            have cR := fun W => refRightT_any ta tl tc tr wt le 3 t 0 0 (⟨#[114]⟩ : ByteArray) W hpz
            rw [HP.out] at cQ cR
            have aa1 := (boxL_new wr [.int .i64 2, .int .i64 be] 48 rfl).1 1 _ rfl
            have ax0 := ((boxL_new wr [.int .i64 2, .int .i64 be] 48 rfl).alloc (.cells #[.int .i64 2, .int .i64 t, .int .i64 d, .int .i64 k, .string r] 26)).1 0 _ rfl
            have bsa := bs.alloc (.cells #[.int .i64 2, .int .i64 be] 48)
            have bsx := bsa.alloc (.cells #[.int .i64 2, .int .i64 t, .int .i64 d, .int .i64 k, .string r] 26)
            have btx := (bt.alloc (.cells #[.int .i64 2, .int .i64 be] 48)).alloc (.cells #[.int .i64 2, .int .i64 t, .int .i64 d, .int .i64 k, .string r] 26)
            have sa0 := bsa.1 0 _ rfl
            have sx0 := bsx.1 0 _ rfl
            have sa1 := bsa.1 1 _ rfl
            have sx1 := bsx.1 1 _ rfl
            have sa2 := bsa.1 2 _ rfl
            have sx2 := bsx.1 2 _ rfl
            have sa3 := bsa.1 3 _ rfl
            have sx3 := bsx.1 3 _ rfl
            have sa4 := bsa.1 4 _ rfl
            have sx4 := bsx.1 4 _ rfl
            have tx0 := btx.1 0 _ rfl
            have tx1 := btx.1 1 _ rfl
            have tx2 := btx.1 2 _ rfl
            have tx3 := btx.1 3 _ rfl
            clear bsa bsx btx
            clear hpz hrz hrl
            as_aux_lemma =>
              go_wp2_with (first
                | (go_at_call 22; refine (cO _).mono ?_; rintro e v1 ⟨rfl, hb⟩; clear sa0 sa1 sa2 sa3 sa4 sx0 sx1 sx2 sx3 sx4 tx0 tx1 tx2 tx3 aa1 ax0; have bt1 := ((bt.alloc (.cells #[.int .i64 2, .int .i64 be] 48)).alloc (.cells #[.int .i64 2, .int .i64 t, .int .i64 d, .int .i64 k, .string r] 26)).below hb; have bs1 := ((bs.alloc (.cells #[.int .i64 2, .int .i64 be] 48)).alloc (.cells #[.int .i64 2, .int .i64 t, .int .i64 d, .int .i64 k, .string r] 26)).below hb; have bx1 := (boxL_new (wr.alloc (.cells #[.int .i64 2, .int .i64 be] 48)) [.int .i64 2, .int .i64 t, .int .i64 d, .int .i64 k, .string r] 26 (h := wr.heap.size + 1) (by simp)).below hb; have hB1 := Below.tr ((hB.alloc hsz (.cells #[.int .i64 2, .int .i64 be] 48)).alloc (by simp; omega) (.cells #[.int .i64 2, .int .i64 t, .int .i64 d, .int .i64 k, .string r] 26)) hb; clear hb bt bs hB; generalize wr.heap.size + 1 = hx at *; have o0 := bx1.1 0 _ rfl; have o1 := bx1.1 1 _ rfl; have o2 := bx1.1 2 _ rfl; have o3 := bx1.1 3 _ rfl; have o4 := bx1.1 4 _ rfl; have f0 := bx1.2 0 (by simp); have f1 := bx1.2 1 (by simp); have f2 := bx1.2 2 (by simp); have f3 := bx1.2 3 (by simp); have f4 := bx1.2 4 (by simp); have bx := boxL_set5 bx1 (.int .i64 3) (.int .i64 t) (.int .i64 0) (.int .i64 0) (.string (⟨#[114]⟩ : ByteArray)); have bt := boxL_off5 bt1 n2 (.int .i64 3) (.int .i64 t) (.int .i64 0) (.int .i64 0) (.string (⟨#[114]⟩ : ByteArray)); have bs := boxL_off5 bs1 n1 (.int .i64 3) (.int .i64 t) (.int .i64 0) (.int .i64 0) (.string (⟨#[114]⟩ : ByteArray)); have hB := below_setT hB1 n3 (.int .i64 3) (.int .i64 t) (.int .i64 0) (.int .i64 0) (.string (⟨#[114]⟩ : ByteArray)); clear bx1 bt1 bs1 hB1)
                | (obtain ⟨U, hU⟩ : ∃ U, U = (((((v1.setCell ⟨hx, 0, none⟩ (.int .i64 3)).setCell ⟨hx, 1, none⟩ (.int .i64 t)).setCell ⟨hx, 2, none⟩ (.int .i64 0)).setCell ⟨hx, 3, none⟩ (.int .i64 0)).setCell ⟨hx, 4, none⟩ (.string (⟨#[114]⟩ : ByteArray))) := ⟨_, rfl⟩; rw [← hU]; rw [← hU] at bx bt bs hB; clear hU o0 o1 o2 o3 o4 f0 f1 f2 f3 f4; have s0 := bs.1 0 _ rfl; have s1 := bs.1 1 _ rfl; have s2 := bs.1 2 _ rfl; have s3 := bs.1 3 _ rfl; have s4 := bs.1 4 _ rfl; have y0 := bx.1 0 _ rfl; have y1 := bx.1 1 _ rfl; have y2 := bx.1 2 _ rfl; have y3 := bx.1 3 _ rfl; have y4 := bx.1 4 _ rfl; have f0 := bx.2 0 (by simp); have f1 := bx.2 1 (by simp); have f2 := bx.2 2 (by simp); have f3 := bx.2 3 (by simp); have f4 := bx.2 4 (by simp); have x0 := bt.1 0 _ rfl; have x1 := bt.1 1 _ rfl; have x2 := bt.1 2 _ rfl; have x3 := bt.1 3 _ rfl; skip)
                | (go_at_call 10; refine (cQ _).mono ?_; rintro e v2 ⟨rfl, hb⟩; replace bx := bx.below hb; replace bt := bt.below hb; replace bs := bs.below hb; replace hB := Below.tr hB hb; clear hb s0 s1 s2 s3 s4 y0 y1 y2 y3 y4 x0 x1 x2 x3; have s0 := bs.1 0 _ rfl; have s1 := bs.1 1 _ rfl; have s2 := bs.1 2 _ rfl; have s3 := bs.1 3 _ rfl; have s4 := bs.1 4 _ rfl; have y0 := bx.1 0 _ rfl; have y1 := bx.1 1 _ rfl; have y2 := bx.1 2 _ rfl; have y3 := bx.1 3 _ rfl; have y4 := bx.1 4 _ rfl; have x0 := bt.1 0 _ rfl; have x1 := bt.1 1 _ rfl; have x2 := bt.1 2 _ rfl; have x3 := bt.1 3 _ rfl; skip)
                | (go_at_call 11; refine (cR _).mono ?_; rintro e v3 ⟨rfl, hb⟩; replace bx := bx.below hb; replace bt := bt.below hb; replace bs := bs.below hb; replace hB := Below.tr hB hb; clear hb s0 s1 s2 s3 s4 y0 y1 y2 y3 y4 x0 x1 x2 x3; have s0 := bs.1 0 _ rfl; have s1 := bs.1 1 _ rfl; have s2 := bs.1 2 _ rfl; have s3 := bs.1 3 _ rfl; have s4 := bs.1 4 _ rfl; have y0 := bx.1 0 _ rfl; have y1 := bx.1 1 _ rfl; have y2 := bx.1 2 _ rfl; have y3 := bx.1 3 _ rfl; have y4 := bx.1 4 _ rfl; have x0 := bt.1 0 _ rfl; have x1 := bt.1 1 _ rfl; have x2 := bt.1 2 _ rfl; have x3 := bt.1 3 _ rfl; have g0 := bs.2 0 (by simp); have g1 := bs.2 1 (by simp); have g2 := bs.2 2 (by simp); have g3 := bs.2 3 (by simp); have g4 := bs.2 4 (by simp); skip))
              all_goals go_roundw
              case rel => exact ⟨j + 1, N', 3, t, 0, 0, (⟨#[114]⟩ : ByteArray), by omega, by omega, by go_num, rfl, rfl, hN'0, hN'1, HP, boxL_off5 bt n5 (.int .i64 3) (.int .i64 t) (.int .i64 0) (.int .i64 0) (.string (⟨#[114]⟩ : ByteArray)), boxL_set5 bs (.int .i64 3) (.int .i64 t) (.int .i64 0) (.int .i64 0) (.string (⟨#[114]⟩ : ByteArray)), below_setT hB n6 (.int .i64 3) (.int .i64 t) (.int .i64 0) (.int .i64 0) (.string (⟨#[114]⟩ : ByteArray))⟩
              case measure => simp [intOf]; omega
          rw [show doneT ⟨i, t, d, k, r⟩ ⟨#[114]⟩ = zeroT from if_neg hl, show doneE ⟨i, t, d, k, r⟩ ⟨#[114]⟩ = 191 from if_neg hl] at cO
          clear hl
          by_cases i3 : i = 3
          · subst i3
            have HP := HR
            have hpz := hrz
            replace cO : ∀ W, Calls Try.prog 22 #[.agg #[.slice ta tl tc, .int .i64 tr, .int .i64 wt, .int .i64 le], .agg #[.int .i64 3, .int .i64 t, .int .i64 d, .int .i64 k, .string r], .string ⟨#[114]⟩] W fun e w' => e = .returned (.tuple #[.agg #[.int .i64 0, .int .i64 0, .int .i64 0, .int .i64 0, .string ⟨#[]⟩], .int .i64 191]) ∧ Below W.heap.size W w' := cO
            have cQ := fun W => rightT_any ta tl tc tr wt le 3 t d k r W hpz
            have cR := fun W => refRightT_any ta tl tc tr wt le 3 t d k r W hpz
            rw [HP.out] at cQ cR
            have aa1 := (boxL_new wr [.int .i64 2, .int .i64 be] 48 rfl).1 1 _ rfl
            have ax0 := ((boxL_new wr [.int .i64 2, .int .i64 be] 48 rfl).alloc (.cells #[.int .i64 3, .int .i64 t, .int .i64 d, .int .i64 k, .string r] 26)).1 0 _ rfl
            have bsa := bs.alloc (.cells #[.int .i64 2, .int .i64 be] 48)
            have bsx := bsa.alloc (.cells #[.int .i64 3, .int .i64 t, .int .i64 d, .int .i64 k, .string r] 26)
            have btx := (bt.alloc (.cells #[.int .i64 2, .int .i64 be] 48)).alloc (.cells #[.int .i64 3, .int .i64 t, .int .i64 d, .int .i64 k, .string r] 26)
            have sa0 := bsa.1 0 _ rfl
            have sx0 := bsx.1 0 _ rfl
            have sa1 := bsa.1 1 _ rfl
            have sx1 := bsx.1 1 _ rfl
            have sa2 := bsa.1 2 _ rfl
            have sx2 := bsx.1 2 _ rfl
            have sa3 := bsa.1 3 _ rfl
            have sx3 := bsx.1 3 _ rfl
            have sa4 := bsa.1 4 _ rfl
            have sx4 := bsx.1 4 _ rfl
            have tx0 := btx.1 0 _ rfl
            have tx1 := btx.1 1 _ rfl
            have tx2 := btx.1 2 _ rfl
            have tx3 := btx.1 3 _ rfl
            clear bsa bsx btx
            clear hpz hrz
            as_aux_lemma =>
              go_wp2_with (first
                | (go_at_call 22; refine (cO _).mono ?_; rintro e v1 ⟨rfl, hb⟩; clear sa0 sa1 sa2 sa3 sa4 sx0 sx1 sx2 sx3 sx4 tx0 tx1 tx2 tx3 aa1 ax0; have bt1 := ((bt.alloc (.cells #[.int .i64 2, .int .i64 be] 48)).alloc (.cells #[.int .i64 3, .int .i64 t, .int .i64 d, .int .i64 k, .string r] 26)).below hb; have bs1 := ((bs.alloc (.cells #[.int .i64 2, .int .i64 be] 48)).alloc (.cells #[.int .i64 3, .int .i64 t, .int .i64 d, .int .i64 k, .string r] 26)).below hb; have bx1 := (boxL_new (wr.alloc (.cells #[.int .i64 2, .int .i64 be] 48)) [.int .i64 3, .int .i64 t, .int .i64 d, .int .i64 k, .string r] 26 (h := wr.heap.size + 1) (by simp)).below hb; have hB1 := Below.tr ((hB.alloc hsz (.cells #[.int .i64 2, .int .i64 be] 48)).alloc (by simp; omega) (.cells #[.int .i64 3, .int .i64 t, .int .i64 d, .int .i64 k, .string r] 26)) hb; clear hb bt bs hB; generalize wr.heap.size + 1 = hx at *; have o0 := bx1.1 0 _ rfl; have o1 := bx1.1 1 _ rfl; have o2 := bx1.1 2 _ rfl; have o3 := bx1.1 3 _ rfl; have o4 := bx1.1 4 _ rfl; have f0 := bx1.2 0 (by simp); have f1 := bx1.2 1 (by simp); have f2 := bx1.2 2 (by simp); have f3 := bx1.2 3 (by simp); have f4 := bx1.2 4 (by simp); have bx := boxL_set5 bx1 (.int .i64 0) (.int .i64 0) (.int .i64 0) (.int .i64 0) (.string ⟨#[]⟩); have bt := boxL_off5 bt1 n2 (.int .i64 0) (.int .i64 0) (.int .i64 0) (.int .i64 0) (.string ⟨#[]⟩); have bs := boxL_off5 bs1 n1 (.int .i64 0) (.int .i64 0) (.int .i64 0) (.int .i64 0) (.string ⟨#[]⟩); have hB := below_setT hB1 n3 (.int .i64 0) (.int .i64 0) (.int .i64 0) (.int .i64 0) (.string ⟨#[]⟩); clear bx1 bt1 bs1 hB1)
                | (obtain ⟨U, hU⟩ : ∃ U, U = (((((v1.setCell ⟨hx, 0, none⟩ (.int .i64 0)).setCell ⟨hx, 1, none⟩ (.int .i64 0)).setCell ⟨hx, 2, none⟩ (.int .i64 0)).setCell ⟨hx, 3, none⟩ (.int .i64 0)).setCell ⟨hx, 4, none⟩ (.string ⟨#[]⟩)) := ⟨_, rfl⟩; rw [← hU]; rw [← hU] at bx bt bs hB; clear hU o0 o1 o2 o3 o4 f0 f1 f2 f3 f4; have s0 := bs.1 0 _ rfl; have s1 := bs.1 1 _ rfl; have s2 := bs.1 2 _ rfl; have s3 := bs.1 3 _ rfl; have s4 := bs.1 4 _ rfl; have y0 := bx.1 0 _ rfl; have y1 := bx.1 1 _ rfl; have y2 := bx.1 2 _ rfl; have y3 := bx.1 3 _ rfl; have y4 := bx.1 4 _ rfl; have f0 := bx.2 0 (by simp); have f1 := bx.2 1 (by simp); have f2 := bx.2 2 (by simp); have f3 := bx.2 3 (by simp); have f4 := bx.2 4 (by simp); have x0 := bt.1 0 _ rfl; have x1 := bt.1 1 _ rfl; have x2 := bt.1 2 _ rfl; have x3 := bt.1 3 _ rfl; skip)
                | (obtain ⟨U2, hU⟩ : ∃ U2, U2 = (((((U.setCell ⟨hx, 0, none⟩ (.int .i64 3)).setCell ⟨hx, 1, none⟩ (.int .i64 t)).setCell ⟨hx, 2, none⟩ (.int .i64 d)).setCell ⟨hx, 3, none⟩ (.int .i64 k)).setCell ⟨hx, 4, none⟩ (.string r)) := ⟨_, rfl⟩; rw [← hU]; have bx2 := boxL_set5 bx (.int .i64 3) (.int .i64 t) (.int .i64 d) (.int .i64 k) (.string r); have bt2 := boxL_off5 bt n2 (.int .i64 3) (.int .i64 t) (.int .i64 d) (.int .i64 k) (.string r); have bs2 := boxL_off5 bs n1 (.int .i64 3) (.int .i64 t) (.int .i64 d) (.int .i64 k) (.string r); have hB2 := below_setT hB n3 (.int .i64 3) (.int .i64 t) (.int .i64 d) (.int .i64 k) (.string r); rw [← hU] at bx2 bt2 bs2 hB2; clear hU bx bt bs hB s0 s1 s2 s3 s4 y0 y1 y2 y3 y4 f0 f1 f2 f3 f4 x0 x1 x2 x3; have bx := bx2; have bt := bt2; have bs := bs2; have hB := hB2; clear bx2 bt2 bs2 hB2; have s0 := bs.1 0 _ rfl; have s1 := bs.1 1 _ rfl; have s2 := bs.1 2 _ rfl; have s3 := bs.1 3 _ rfl; have s4 := bs.1 4 _ rfl; have y0 := bx.1 0 _ rfl; have y1 := bx.1 1 _ rfl; have y2 := bx.1 2 _ rfl; have y3 := bx.1 3 _ rfl; have y4 := bx.1 4 _ rfl; have x0 := bt.1 0 _ rfl; have x1 := bt.1 1 _ rfl; have x2 := bt.1 2 _ rfl; have x3 := bt.1 3 _ rfl; skip)
                | (go_at_call 10; refine (cQ _).mono ?_; rintro e v2 ⟨rfl, hb⟩; replace bx := bx.below hb; replace bt := bt.below hb; replace bs := bs.below hb; replace hB := Below.tr hB hb; clear hb s0 s1 s2 s3 s4 y0 y1 y2 y3 y4 x0 x1 x2 x3; have s0 := bs.1 0 _ rfl; have s1 := bs.1 1 _ rfl; have s2 := bs.1 2 _ rfl; have s3 := bs.1 3 _ rfl; have s4 := bs.1 4 _ rfl; have y0 := bx.1 0 _ rfl; have y1 := bx.1 1 _ rfl; have y2 := bx.1 2 _ rfl; have y3 := bx.1 3 _ rfl; have y4 := bx.1 4 _ rfl; have x0 := bt.1 0 _ rfl; have x1 := bt.1 1 _ rfl; have x2 := bt.1 2 _ rfl; have x3 := bt.1 3 _ rfl; skip)
                | (go_at_call 11; refine (cR _).mono ?_; rintro e v3 ⟨rfl, hb⟩; replace bx := bx.below hb; replace bt := bt.below hb; replace bs := bs.below hb; replace hB := Below.tr hB hb; clear hb s0 s1 s2 s3 s4 y0 y1 y2 y3 y4 x0 x1 x2 x3; have s0 := bs.1 0 _ rfl; have s1 := bs.1 1 _ rfl; have s2 := bs.1 2 _ rfl; have s3 := bs.1 3 _ rfl; have s4 := bs.1 4 _ rfl; have y0 := bx.1 0 _ rfl; have y1 := bx.1 1 _ rfl; have y2 := bx.1 2 _ rfl; have y3 := bx.1 3 _ rfl; have y4 := bx.1 4 _ rfl; have x0 := bt.1 0 _ rfl; have x1 := bt.1 1 _ rfl; have x2 := bt.1 2 _ rfl; have x3 := bt.1 3 _ rfl; have g0 := bs.2 0 (by simp); have g1 := bs.2 1 (by simp); have g2 := bs.2 2 (by simp); have g3 := bs.2 3 (by simp); have g4 := bs.2 4 (by simp); skip))
              all_goals go_roundw
              case rel => exact ⟨j + 1, N', 3, t, d, k, r, by omega, by omega, by go_num, rfl, rfl, hN'0, hN'1, HP, boxL_off5 bt n5 (.int .i64 3) (.int .i64 t) (.int .i64 d) (.int .i64 k) (.string r), boxL_set5 bs (.int .i64 3) (.int .i64 t) (.int .i64 d) (.int .i64 k) (.string r), below_setT hB n6 (.int .i64 3) (.int .i64 t) (.int .i64 d) (.int .i64 k) (.string r)⟩
              case measure => simp [intOf]; omega
          by_cases i4 : i = 4
          · subst i4
            have HP := HR
            have hpz := hrz
            replace cO : ∀ W, Calls Try.prog 22 #[.agg #[.slice ta tl tc, .int .i64 tr, .int .i64 wt, .int .i64 le], .agg #[.int .i64 4, .int .i64 t, .int .i64 d, .int .i64 k, .string r], .string ⟨#[114]⟩] W fun e w' => e = .returned (.tuple #[.agg #[.int .i64 0, .int .i64 0, .int .i64 0, .int .i64 0, .string ⟨#[]⟩], .int .i64 191]) ∧ Below W.heap.size W w' := cO
            have cQ := fun W => rightT_any ta tl tc tr wt le 4 t d k r W hpz
            have cR := fun W => refRightT_any ta tl tc tr wt le 4 t d k r W hpz
            rw [HP.out] at cQ cR
            have aa1 := (boxL_new wr [.int .i64 2, .int .i64 be] 48 rfl).1 1 _ rfl
            have ax0 := ((boxL_new wr [.int .i64 2, .int .i64 be] 48 rfl).alloc (.cells #[.int .i64 4, .int .i64 t, .int .i64 d, .int .i64 k, .string r] 26)).1 0 _ rfl
            have bsa := bs.alloc (.cells #[.int .i64 2, .int .i64 be] 48)
            have bsx := bsa.alloc (.cells #[.int .i64 4, .int .i64 t, .int .i64 d, .int .i64 k, .string r] 26)
            have btx := (bt.alloc (.cells #[.int .i64 2, .int .i64 be] 48)).alloc (.cells #[.int .i64 4, .int .i64 t, .int .i64 d, .int .i64 k, .string r] 26)
            have sa0 := bsa.1 0 _ rfl
            have sx0 := bsx.1 0 _ rfl
            have sa1 := bsa.1 1 _ rfl
            have sx1 := bsx.1 1 _ rfl
            have sa2 := bsa.1 2 _ rfl
            have sx2 := bsx.1 2 _ rfl
            have sa3 := bsa.1 3 _ rfl
            have sx3 := bsx.1 3 _ rfl
            have sa4 := bsa.1 4 _ rfl
            have sx4 := bsx.1 4 _ rfl
            have tx0 := btx.1 0 _ rfl
            have tx1 := btx.1 1 _ rfl
            have tx2 := btx.1 2 _ rfl
            have tx3 := btx.1 3 _ rfl
            clear bsa bsx btx
            clear hpz hrz
            as_aux_lemma =>
              go_wp2_with (first
                | (go_at_call 22; refine (cO _).mono ?_; rintro e v1 ⟨rfl, hb⟩; clear sa0 sa1 sa2 sa3 sa4 sx0 sx1 sx2 sx3 sx4 tx0 tx1 tx2 tx3 aa1 ax0; have bt1 := ((bt.alloc (.cells #[.int .i64 2, .int .i64 be] 48)).alloc (.cells #[.int .i64 4, .int .i64 t, .int .i64 d, .int .i64 k, .string r] 26)).below hb; have bs1 := ((bs.alloc (.cells #[.int .i64 2, .int .i64 be] 48)).alloc (.cells #[.int .i64 4, .int .i64 t, .int .i64 d, .int .i64 k, .string r] 26)).below hb; have bx1 := (boxL_new (wr.alloc (.cells #[.int .i64 2, .int .i64 be] 48)) [.int .i64 4, .int .i64 t, .int .i64 d, .int .i64 k, .string r] 26 (h := wr.heap.size + 1) (by simp)).below hb; have hB1 := Below.tr ((hB.alloc hsz (.cells #[.int .i64 2, .int .i64 be] 48)).alloc (by simp; omega) (.cells #[.int .i64 4, .int .i64 t, .int .i64 d, .int .i64 k, .string r] 26)) hb; clear hb bt bs hB; generalize wr.heap.size + 1 = hx at *; have o0 := bx1.1 0 _ rfl; have o1 := bx1.1 1 _ rfl; have o2 := bx1.1 2 _ rfl; have o3 := bx1.1 3 _ rfl; have o4 := bx1.1 4 _ rfl; have f0 := bx1.2 0 (by simp); have f1 := bx1.2 1 (by simp); have f2 := bx1.2 2 (by simp); have f3 := bx1.2 3 (by simp); have f4 := bx1.2 4 (by simp); have bx := boxL_set5 bx1 (.int .i64 0) (.int .i64 0) (.int .i64 0) (.int .i64 0) (.string ⟨#[]⟩); have bt := boxL_off5 bt1 n2 (.int .i64 0) (.int .i64 0) (.int .i64 0) (.int .i64 0) (.string ⟨#[]⟩); have bs := boxL_off5 bs1 n1 (.int .i64 0) (.int .i64 0) (.int .i64 0) (.int .i64 0) (.string ⟨#[]⟩); have hB := below_setT hB1 n3 (.int .i64 0) (.int .i64 0) (.int .i64 0) (.int .i64 0) (.string ⟨#[]⟩); clear bx1 bt1 bs1 hB1)
                | (obtain ⟨U, hU⟩ : ∃ U, U = (((((v1.setCell ⟨hx, 0, none⟩ (.int .i64 0)).setCell ⟨hx, 1, none⟩ (.int .i64 0)).setCell ⟨hx, 2, none⟩ (.int .i64 0)).setCell ⟨hx, 3, none⟩ (.int .i64 0)).setCell ⟨hx, 4, none⟩ (.string ⟨#[]⟩)) := ⟨_, rfl⟩; rw [← hU]; rw [← hU] at bx bt bs hB; clear hU o0 o1 o2 o3 o4 f0 f1 f2 f3 f4; have s0 := bs.1 0 _ rfl; have s1 := bs.1 1 _ rfl; have s2 := bs.1 2 _ rfl; have s3 := bs.1 3 _ rfl; have s4 := bs.1 4 _ rfl; have y0 := bx.1 0 _ rfl; have y1 := bx.1 1 _ rfl; have y2 := bx.1 2 _ rfl; have y3 := bx.1 3 _ rfl; have y4 := bx.1 4 _ rfl; have f0 := bx.2 0 (by simp); have f1 := bx.2 1 (by simp); have f2 := bx.2 2 (by simp); have f3 := bx.2 3 (by simp); have f4 := bx.2 4 (by simp); have x0 := bt.1 0 _ rfl; have x1 := bt.1 1 _ rfl; have x2 := bt.1 2 _ rfl; have x3 := bt.1 3 _ rfl; skip)
                | (obtain ⟨U2, hU⟩ : ∃ U2, U2 = (((((U.setCell ⟨hx, 0, none⟩ (.int .i64 4)).setCell ⟨hx, 1, none⟩ (.int .i64 t)).setCell ⟨hx, 2, none⟩ (.int .i64 d)).setCell ⟨hx, 3, none⟩ (.int .i64 k)).setCell ⟨hx, 4, none⟩ (.string r)) := ⟨_, rfl⟩; rw [← hU]; have bx2 := boxL_set5 bx (.int .i64 4) (.int .i64 t) (.int .i64 d) (.int .i64 k) (.string r); have bt2 := boxL_off5 bt n2 (.int .i64 4) (.int .i64 t) (.int .i64 d) (.int .i64 k) (.string r); have bs2 := boxL_off5 bs n1 (.int .i64 4) (.int .i64 t) (.int .i64 d) (.int .i64 k) (.string r); have hB2 := below_setT hB n3 (.int .i64 4) (.int .i64 t) (.int .i64 d) (.int .i64 k) (.string r); rw [← hU] at bx2 bt2 bs2 hB2; clear hU bx bt bs hB s0 s1 s2 s3 s4 y0 y1 y2 y3 y4 f0 f1 f2 f3 f4 x0 x1 x2 x3; have bx := bx2; have bt := bt2; have bs := bs2; have hB := hB2; clear bx2 bt2 bs2 hB2; have s0 := bs.1 0 _ rfl; have s1 := bs.1 1 _ rfl; have s2 := bs.1 2 _ rfl; have s3 := bs.1 3 _ rfl; have s4 := bs.1 4 _ rfl; have y0 := bx.1 0 _ rfl; have y1 := bx.1 1 _ rfl; have y2 := bx.1 2 _ rfl; have y3 := bx.1 3 _ rfl; have y4 := bx.1 4 _ rfl; have x0 := bt.1 0 _ rfl; have x1 := bt.1 1 _ rfl; have x2 := bt.1 2 _ rfl; have x3 := bt.1 3 _ rfl; skip)
                | (go_at_call 10; refine (cQ _).mono ?_; rintro e v2 ⟨rfl, hb⟩; replace bx := bx.below hb; replace bt := bt.below hb; replace bs := bs.below hb; replace hB := Below.tr hB hb; clear hb s0 s1 s2 s3 s4 y0 y1 y2 y3 y4 x0 x1 x2 x3; have s0 := bs.1 0 _ rfl; have s1 := bs.1 1 _ rfl; have s2 := bs.1 2 _ rfl; have s3 := bs.1 3 _ rfl; have s4 := bs.1 4 _ rfl; have y0 := bx.1 0 _ rfl; have y1 := bx.1 1 _ rfl; have y2 := bx.1 2 _ rfl; have y3 := bx.1 3 _ rfl; have y4 := bx.1 4 _ rfl; have x0 := bt.1 0 _ rfl; have x1 := bt.1 1 _ rfl; have x2 := bt.1 2 _ rfl; have x3 := bt.1 3 _ rfl; skip)
                | (go_at_call 11; refine (cR _).mono ?_; rintro e v3 ⟨rfl, hb⟩; replace bx := bx.below hb; replace bt := bt.below hb; replace bs := bs.below hb; replace hB := Below.tr hB hb; clear hb s0 s1 s2 s3 s4 y0 y1 y2 y3 y4 x0 x1 x2 x3; have s0 := bs.1 0 _ rfl; have s1 := bs.1 1 _ rfl; have s2 := bs.1 2 _ rfl; have s3 := bs.1 3 _ rfl; have s4 := bs.1 4 _ rfl; have y0 := bx.1 0 _ rfl; have y1 := bx.1 1 _ rfl; have y2 := bx.1 2 _ rfl; have y3 := bx.1 3 _ rfl; have y4 := bx.1 4 _ rfl; have x0 := bt.1 0 _ rfl; have x1 := bt.1 1 _ rfl; have x2 := bt.1 2 _ rfl; have x3 := bt.1 3 _ rfl; have g0 := bs.2 0 (by simp); have g1 := bs.2 1 (by simp); have g2 := bs.2 2 (by simp); have g3 := bs.2 3 (by simp); have g4 := bs.2 4 (by simp); skip))
              all_goals go_roundw
              case rel => exact ⟨j + 1, N', 4, t, d, k, r, by omega, by omega, by go_num, rfl, rfl, hN'0, hN'1, HP, boxL_off5 bt n5 (.int .i64 4) (.int .i64 t) (.int .i64 d) (.int .i64 k) (.string r), boxL_set5 bs (.int .i64 4) (.int .i64 t) (.int .i64 d) (.int .i64 k) (.string r), below_setT hB n6 (.int .i64 4) (.int .i64 t) (.int .i64 d) (.int .i64 k) (.string r)⟩
              case measure => simp [intOf]; omega
          by_cases i5 : i = 5
          · subst i5
            have HP := HR
            have hpz := hrz
            replace cO : ∀ W, Calls Try.prog 22 #[.agg #[.slice ta tl tc, .int .i64 tr, .int .i64 wt, .int .i64 le], .agg #[.int .i64 5, .int .i64 t, .int .i64 d, .int .i64 k, .string r], .string ⟨#[114]⟩] W fun e w' => e = .returned (.tuple #[.agg #[.int .i64 0, .int .i64 0, .int .i64 0, .int .i64 0, .string ⟨#[]⟩], .int .i64 191]) ∧ Below W.heap.size W w' := cO
            have cQ := fun W => rightT_any ta tl tc tr wt le 5 t d k r W hpz
            have cR := fun W => refRightT_any ta tl tc tr wt le 5 t d k r W hpz
            rw [HP.out] at cQ cR
            have aa1 := (boxL_new wr [.int .i64 2, .int .i64 be] 48 rfl).1 1 _ rfl
            have ax0 := ((boxL_new wr [.int .i64 2, .int .i64 be] 48 rfl).alloc (.cells #[.int .i64 5, .int .i64 t, .int .i64 d, .int .i64 k, .string r] 26)).1 0 _ rfl
            have bsa := bs.alloc (.cells #[.int .i64 2, .int .i64 be] 48)
            have bsx := bsa.alloc (.cells #[.int .i64 5, .int .i64 t, .int .i64 d, .int .i64 k, .string r] 26)
            have btx := (bt.alloc (.cells #[.int .i64 2, .int .i64 be] 48)).alloc (.cells #[.int .i64 5, .int .i64 t, .int .i64 d, .int .i64 k, .string r] 26)
            have sa0 := bsa.1 0 _ rfl
            have sx0 := bsx.1 0 _ rfl
            have sa1 := bsa.1 1 _ rfl
            have sx1 := bsx.1 1 _ rfl
            have sa2 := bsa.1 2 _ rfl
            have sx2 := bsx.1 2 _ rfl
            have sa3 := bsa.1 3 _ rfl
            have sx3 := bsx.1 3 _ rfl
            have sa4 := bsa.1 4 _ rfl
            have sx4 := bsx.1 4 _ rfl
            have tx0 := btx.1 0 _ rfl
            have tx1 := btx.1 1 _ rfl
            have tx2 := btx.1 2 _ rfl
            have tx3 := btx.1 3 _ rfl
            clear bsa bsx btx
            clear hpz hrz
            as_aux_lemma =>
              go_wp2_with (first
                | (go_at_call 22; refine (cO _).mono ?_; rintro e v1 ⟨rfl, hb⟩; clear sa0 sa1 sa2 sa3 sa4 sx0 sx1 sx2 sx3 sx4 tx0 tx1 tx2 tx3 aa1 ax0; have bt1 := ((bt.alloc (.cells #[.int .i64 2, .int .i64 be] 48)).alloc (.cells #[.int .i64 5, .int .i64 t, .int .i64 d, .int .i64 k, .string r] 26)).below hb; have bs1 := ((bs.alloc (.cells #[.int .i64 2, .int .i64 be] 48)).alloc (.cells #[.int .i64 5, .int .i64 t, .int .i64 d, .int .i64 k, .string r] 26)).below hb; have bx1 := (boxL_new (wr.alloc (.cells #[.int .i64 2, .int .i64 be] 48)) [.int .i64 5, .int .i64 t, .int .i64 d, .int .i64 k, .string r] 26 (h := wr.heap.size + 1) (by simp)).below hb; have hB1 := Below.tr ((hB.alloc hsz (.cells #[.int .i64 2, .int .i64 be] 48)).alloc (by simp; omega) (.cells #[.int .i64 5, .int .i64 t, .int .i64 d, .int .i64 k, .string r] 26)) hb; clear hb bt bs hB; generalize wr.heap.size + 1 = hx at *; have o0 := bx1.1 0 _ rfl; have o1 := bx1.1 1 _ rfl; have o2 := bx1.1 2 _ rfl; have o3 := bx1.1 3 _ rfl; have o4 := bx1.1 4 _ rfl; have f0 := bx1.2 0 (by simp); have f1 := bx1.2 1 (by simp); have f2 := bx1.2 2 (by simp); have f3 := bx1.2 3 (by simp); have f4 := bx1.2 4 (by simp); have bx := boxL_set5 bx1 (.int .i64 0) (.int .i64 0) (.int .i64 0) (.int .i64 0) (.string ⟨#[]⟩); have bt := boxL_off5 bt1 n2 (.int .i64 0) (.int .i64 0) (.int .i64 0) (.int .i64 0) (.string ⟨#[]⟩); have bs := boxL_off5 bs1 n1 (.int .i64 0) (.int .i64 0) (.int .i64 0) (.int .i64 0) (.string ⟨#[]⟩); have hB := below_setT hB1 n3 (.int .i64 0) (.int .i64 0) (.int .i64 0) (.int .i64 0) (.string ⟨#[]⟩); clear bx1 bt1 bs1 hB1)
                | (obtain ⟨U, hU⟩ : ∃ U, U = (((((v1.setCell ⟨hx, 0, none⟩ (.int .i64 0)).setCell ⟨hx, 1, none⟩ (.int .i64 0)).setCell ⟨hx, 2, none⟩ (.int .i64 0)).setCell ⟨hx, 3, none⟩ (.int .i64 0)).setCell ⟨hx, 4, none⟩ (.string ⟨#[]⟩)) := ⟨_, rfl⟩; rw [← hU]; rw [← hU] at bx bt bs hB; clear hU o0 o1 o2 o3 o4 f0 f1 f2 f3 f4; have s0 := bs.1 0 _ rfl; have s1 := bs.1 1 _ rfl; have s2 := bs.1 2 _ rfl; have s3 := bs.1 3 _ rfl; have s4 := bs.1 4 _ rfl; have y0 := bx.1 0 _ rfl; have y1 := bx.1 1 _ rfl; have y2 := bx.1 2 _ rfl; have y3 := bx.1 3 _ rfl; have y4 := bx.1 4 _ rfl; have f0 := bx.2 0 (by simp); have f1 := bx.2 1 (by simp); have f2 := bx.2 2 (by simp); have f3 := bx.2 3 (by simp); have f4 := bx.2 4 (by simp); have x0 := bt.1 0 _ rfl; have x1 := bt.1 1 _ rfl; have x2 := bt.1 2 _ rfl; have x3 := bt.1 3 _ rfl; skip)
                | (obtain ⟨U2, hU⟩ : ∃ U2, U2 = (((((U.setCell ⟨hx, 0, none⟩ (.int .i64 5)).setCell ⟨hx, 1, none⟩ (.int .i64 t)).setCell ⟨hx, 2, none⟩ (.int .i64 d)).setCell ⟨hx, 3, none⟩ (.int .i64 k)).setCell ⟨hx, 4, none⟩ (.string r)) := ⟨_, rfl⟩; rw [← hU]; have bx2 := boxL_set5 bx (.int .i64 5) (.int .i64 t) (.int .i64 d) (.int .i64 k) (.string r); have bt2 := boxL_off5 bt n2 (.int .i64 5) (.int .i64 t) (.int .i64 d) (.int .i64 k) (.string r); have bs2 := boxL_off5 bs n1 (.int .i64 5) (.int .i64 t) (.int .i64 d) (.int .i64 k) (.string r); have hB2 := below_setT hB n3 (.int .i64 5) (.int .i64 t) (.int .i64 d) (.int .i64 k) (.string r); rw [← hU] at bx2 bt2 bs2 hB2; clear hU bx bt bs hB s0 s1 s2 s3 s4 y0 y1 y2 y3 y4 f0 f1 f2 f3 f4 x0 x1 x2 x3; have bx := bx2; have bt := bt2; have bs := bs2; have hB := hB2; clear bx2 bt2 bs2 hB2; have s0 := bs.1 0 _ rfl; have s1 := bs.1 1 _ rfl; have s2 := bs.1 2 _ rfl; have s3 := bs.1 3 _ rfl; have s4 := bs.1 4 _ rfl; have y0 := bx.1 0 _ rfl; have y1 := bx.1 1 _ rfl; have y2 := bx.1 2 _ rfl; have y3 := bx.1 3 _ rfl; have y4 := bx.1 4 _ rfl; have x0 := bt.1 0 _ rfl; have x1 := bt.1 1 _ rfl; have x2 := bt.1 2 _ rfl; have x3 := bt.1 3 _ rfl; skip)
                | (go_at_call 10; refine (cQ _).mono ?_; rintro e v2 ⟨rfl, hb⟩; replace bx := bx.below hb; replace bt := bt.below hb; replace bs := bs.below hb; replace hB := Below.tr hB hb; clear hb s0 s1 s2 s3 s4 y0 y1 y2 y3 y4 x0 x1 x2 x3; have s0 := bs.1 0 _ rfl; have s1 := bs.1 1 _ rfl; have s2 := bs.1 2 _ rfl; have s3 := bs.1 3 _ rfl; have s4 := bs.1 4 _ rfl; have y0 := bx.1 0 _ rfl; have y1 := bx.1 1 _ rfl; have y2 := bx.1 2 _ rfl; have y3 := bx.1 3 _ rfl; have y4 := bx.1 4 _ rfl; have x0 := bt.1 0 _ rfl; have x1 := bt.1 1 _ rfl; have x2 := bt.1 2 _ rfl; have x3 := bt.1 3 _ rfl; skip)
                | (go_at_call 11; refine (cR _).mono ?_; rintro e v3 ⟨rfl, hb⟩; replace bx := bx.below hb; replace bt := bt.below hb; replace bs := bs.below hb; replace hB := Below.tr hB hb; clear hb s0 s1 s2 s3 s4 y0 y1 y2 y3 y4 x0 x1 x2 x3; have s0 := bs.1 0 _ rfl; have s1 := bs.1 1 _ rfl; have s2 := bs.1 2 _ rfl; have s3 := bs.1 3 _ rfl; have s4 := bs.1 4 _ rfl; have y0 := bx.1 0 _ rfl; have y1 := bx.1 1 _ rfl; have y2 := bx.1 2 _ rfl; have y3 := bx.1 3 _ rfl; have y4 := bx.1 4 _ rfl; have x0 := bt.1 0 _ rfl; have x1 := bt.1 1 _ rfl; have x2 := bt.1 2 _ rfl; have x3 := bt.1 3 _ rfl; have g0 := bs.2 0 (by simp); have g1 := bs.2 1 (by simp); have g2 := bs.2 2 (by simp); have g3 := bs.2 3 (by simp); have g4 := bs.2 4 (by simp); skip))
              all_goals go_roundw
              case rel => exact ⟨j + 1, N', 5, t, d, k, r, by omega, by omega, by go_num, rfl, rfl, hN'0, hN'1, HP, boxL_off5 bt n5 (.int .i64 5) (.int .i64 t) (.int .i64 d) (.int .i64 k) (.string r), boxL_set5 bs (.int .i64 5) (.int .i64 t) (.int .i64 d) (.int .i64 k) (.string r), below_setT hB n6 (.int .i64 5) (.int .i64 t) (.int .i64 d) (.int .i64 k) (.string r)⟩
              case measure => simp [intOf]; omega
          have g3 : (i == 3) = false := by simpa using i3
          have g4 : (i == 4) = false := by simpa using i4
          have g5 : (i == 5) = false := by simpa using i5
          clear i3 i4 i5
          have HP := HR
          have hpz := hrz
          replace cO : ∀ W, Calls Try.prog 22 #[.agg #[.slice ta tl tc, .int .i64 tr, .int .i64 wt, .int .i64 le], .agg #[.int .i64 i, .int .i64 t, .int .i64 d, .int .i64 k, .string r], .string ⟨#[114]⟩] W fun e w' => e = .returned (.tuple #[.agg #[.int .i64 0, .int .i64 0, .int .i64 0, .int .i64 0, .string ⟨#[]⟩], .int .i64 191]) ∧ Below W.heap.size W w' := cO
          have cQ := fun W => rightT_any ta tl tc tr wt le i t d k r W hpz
          have cR := fun W => refRightT_any ta tl tc tr wt le i t d k r W hpz
          rw [HP.out] at cQ cR
          have aa1 := (boxL_new wr [.int .i64 2, .int .i64 be] 48 rfl).1 1 _ rfl
          have ax0 := ((boxL_new wr [.int .i64 2, .int .i64 be] 48 rfl).alloc (.cells #[.int .i64 i, .int .i64 t, .int .i64 d, .int .i64 k, .string r] 26)).1 0 _ rfl
          have bsa := bs.alloc (.cells #[.int .i64 2, .int .i64 be] 48)
          have bsx := bsa.alloc (.cells #[.int .i64 i, .int .i64 t, .int .i64 d, .int .i64 k, .string r] 26)
          have btx := (bt.alloc (.cells #[.int .i64 2, .int .i64 be] 48)).alloc (.cells #[.int .i64 i, .int .i64 t, .int .i64 d, .int .i64 k, .string r] 26)
          have sa0 := bsa.1 0 _ rfl
          have sx0 := bsx.1 0 _ rfl
          have sa1 := bsa.1 1 _ rfl
          have sx1 := bsx.1 1 _ rfl
          have sa2 := bsa.1 2 _ rfl
          have sx2 := bsx.1 2 _ rfl
          have sa3 := bsa.1 3 _ rfl
          have sx3 := bsx.1 3 _ rfl
          have sa4 := bsa.1 4 _ rfl
          have sx4 := bsx.1 4 _ rfl
          have tx0 := btx.1 0 _ rfl
          have tx1 := btx.1 1 _ rfl
          have tx2 := btx.1 2 _ rfl
          have tx3 := btx.1 3 _ rfl
          clear bsa bsx btx
          clear hpz hrz
          as_aux_lemma =>
            go_wp2_with (first
              | (go_at_call 22; refine (cO _).mono ?_; rintro e v1 ⟨rfl, hb⟩; clear sa0 sa1 sa2 sa3 sa4 sx0 sx1 sx2 sx3 sx4 tx0 tx1 tx2 tx3 aa1 ax0; have bt1 := ((bt.alloc (.cells #[.int .i64 2, .int .i64 be] 48)).alloc (.cells #[.int .i64 i, .int .i64 t, .int .i64 d, .int .i64 k, .string r] 26)).below hb; have bs1 := ((bs.alloc (.cells #[.int .i64 2, .int .i64 be] 48)).alloc (.cells #[.int .i64 i, .int .i64 t, .int .i64 d, .int .i64 k, .string r] 26)).below hb; have bx1 := (boxL_new (wr.alloc (.cells #[.int .i64 2, .int .i64 be] 48)) [.int .i64 i, .int .i64 t, .int .i64 d, .int .i64 k, .string r] 26 (h := wr.heap.size + 1) (by simp)).below hb; have hB1 := Below.tr ((hB.alloc hsz (.cells #[.int .i64 2, .int .i64 be] 48)).alloc (by simp; omega) (.cells #[.int .i64 i, .int .i64 t, .int .i64 d, .int .i64 k, .string r] 26)) hb; clear hb bt bs hB; generalize wr.heap.size + 1 = hx at *; have o0 := bx1.1 0 _ rfl; have o1 := bx1.1 1 _ rfl; have o2 := bx1.1 2 _ rfl; have o3 := bx1.1 3 _ rfl; have o4 := bx1.1 4 _ rfl; have f0 := bx1.2 0 (by simp); have f1 := bx1.2 1 (by simp); have f2 := bx1.2 2 (by simp); have f3 := bx1.2 3 (by simp); have f4 := bx1.2 4 (by simp); have bx := boxL_set5 bx1 (.int .i64 0) (.int .i64 0) (.int .i64 0) (.int .i64 0) (.string ⟨#[]⟩); have bt := boxL_off5 bt1 n2 (.int .i64 0) (.int .i64 0) (.int .i64 0) (.int .i64 0) (.string ⟨#[]⟩); have bs := boxL_off5 bs1 n1 (.int .i64 0) (.int .i64 0) (.int .i64 0) (.int .i64 0) (.string ⟨#[]⟩); have hB := below_setT hB1 n3 (.int .i64 0) (.int .i64 0) (.int .i64 0) (.int .i64 0) (.string ⟨#[]⟩); clear bx1 bt1 bs1 hB1)
              | (obtain ⟨U, hU⟩ : ∃ U, U = (((((v1.setCell ⟨hx, 0, none⟩ (.int .i64 0)).setCell ⟨hx, 1, none⟩ (.int .i64 0)).setCell ⟨hx, 2, none⟩ (.int .i64 0)).setCell ⟨hx, 3, none⟩ (.int .i64 0)).setCell ⟨hx, 4, none⟩ (.string ⟨#[]⟩)) := ⟨_, rfl⟩; rw [← hU]; rw [← hU] at bx bt bs hB; clear hU o0 o1 o2 o3 o4 f0 f1 f2 f3 f4; have s0 := bs.1 0 _ rfl; have s1 := bs.1 1 _ rfl; have s2 := bs.1 2 _ rfl; have s3 := bs.1 3 _ rfl; have s4 := bs.1 4 _ rfl; have y0 := bx.1 0 _ rfl; have y1 := bx.1 1 _ rfl; have y2 := bx.1 2 _ rfl; have y3 := bx.1 3 _ rfl; have y4 := bx.1 4 _ rfl; have f0 := bx.2 0 (by simp); have f1 := bx.2 1 (by simp); have f2 := bx.2 2 (by simp); have f3 := bx.2 3 (by simp); have f4 := bx.2 4 (by simp); have x0 := bt.1 0 _ rfl; have x1 := bt.1 1 _ rfl; have x2 := bt.1 2 _ rfl; have x3 := bt.1 3 _ rfl; skip)
              | (obtain ⟨U2, hU⟩ : ∃ U2, U2 = (((((U.setCell ⟨hx, 0, none⟩ (.int .i64 i)).setCell ⟨hx, 1, none⟩ (.int .i64 t)).setCell ⟨hx, 2, none⟩ (.int .i64 d)).setCell ⟨hx, 3, none⟩ (.int .i64 k)).setCell ⟨hx, 4, none⟩ (.string r)) := ⟨_, rfl⟩; rw [← hU]; have bx2 := boxL_set5 bx (.int .i64 i) (.int .i64 t) (.int .i64 d) (.int .i64 k) (.string r); have bt2 := boxL_off5 bt n2 (.int .i64 i) (.int .i64 t) (.int .i64 d) (.int .i64 k) (.string r); have bs2 := boxL_off5 bs n1 (.int .i64 i) (.int .i64 t) (.int .i64 d) (.int .i64 k) (.string r); have hB2 := below_setT hB n3 (.int .i64 i) (.int .i64 t) (.int .i64 d) (.int .i64 k) (.string r); rw [← hU] at bx2 bt2 bs2 hB2; clear hU bx bt bs hB s0 s1 s2 s3 s4 y0 y1 y2 y3 y4 f0 f1 f2 f3 f4 x0 x1 x2 x3; have bx := bx2; have bt := bt2; have bs := bs2; have hB := hB2; clear bx2 bt2 bs2 hB2; have s0 := bs.1 0 _ rfl; have s1 := bs.1 1 _ rfl; have s2 := bs.1 2 _ rfl; have s3 := bs.1 3 _ rfl; have s4 := bs.1 4 _ rfl; have y0 := bx.1 0 _ rfl; have y1 := bx.1 1 _ rfl; have y2 := bx.1 2 _ rfl; have y3 := bx.1 3 _ rfl; have y4 := bx.1 4 _ rfl; have x0 := bt.1 0 _ rfl; have x1 := bt.1 1 _ rfl; have x2 := bt.1 2 _ rfl; have x3 := bt.1 3 _ rfl; skip)
              | (go_at_call 10; refine (cQ _).mono ?_; rintro e v2 ⟨rfl, hb⟩; replace bx := bx.below hb; replace bt := bt.below hb; replace bs := bs.below hb; replace hB := Below.tr hB hb; clear hb s0 s1 s2 s3 s4 y0 y1 y2 y3 y4 x0 x1 x2 x3; have s0 := bs.1 0 _ rfl; have s1 := bs.1 1 _ rfl; have s2 := bs.1 2 _ rfl; have s3 := bs.1 3 _ rfl; have s4 := bs.1 4 _ rfl; have y0 := bx.1 0 _ rfl; have y1 := bx.1 1 _ rfl; have y2 := bx.1 2 _ rfl; have y3 := bx.1 3 _ rfl; have y4 := bx.1 4 _ rfl; have x0 := bt.1 0 _ rfl; have x1 := bt.1 1 _ rfl; have x2 := bt.1 2 _ rfl; have x3 := bt.1 3 _ rfl; skip)
              | (go_at_call 11; refine (cR _).mono ?_; rintro e v3 ⟨rfl, hb⟩; replace bx := bx.below hb; replace bt := bt.below hb; replace bs := bs.below hb; replace hB := Below.tr hB hb; clear hb s0 s1 s2 s3 s4 y0 y1 y2 y3 y4 x0 x1 x2 x3; have s0 := bs.1 0 _ rfl; have s1 := bs.1 1 _ rfl; have s2 := bs.1 2 _ rfl; have s3 := bs.1 3 _ rfl; have s4 := bs.1 4 _ rfl; have y0 := bx.1 0 _ rfl; have y1 := bx.1 1 _ rfl; have y2 := bx.1 2 _ rfl; have y3 := bx.1 3 _ rfl; have y4 := bx.1 4 _ rfl; have x0 := bt.1 0 _ rfl; have x1 := bt.1 1 _ rfl; have x2 := bt.1 2 _ rfl; have x3 := bt.1 3 _ rfl; have g0 := bs.2 0 (by simp); have g1 := bs.2 1 (by simp); have g2 := bs.2 2 (by simp); have g3 := bs.2 3 (by simp); have g4 := bs.2 4 (by simp); skip))
            all_goals go_roundw
            case rel => exact ⟨j + 1, N', i, t, d, k, r, by omega, by omega, by go_num, rfl, rfl, hN'0, hN'1, HP, boxL_off5 bt n5 (.int .i64 i) (.int .i64 t) (.int .i64 d) (.int .i64 k) (.string r), boxL_set5 bs (.int .i64 i) (.int .i64 t) (.int .i64 d) (.int .i64 k) (.string r), below_setT hB n6 (.int .i64 i) (.int .i64 t) (.int .i64 d) (.int .i64 k) (.string r)⟩
            case measure => simp [intOf]; omega
        by_cases q3 : wh = 3
        · subst q3
          clear q0 q1 q2
          have cO := fun W => failT_any ta tl tc tr wt le i t d k r N' W (by omega)
          by_cases hl : i = 2
          · subst hl
            obtain ⟨hrl, hpt⟩ := right_fail (wt := wt) (now := N') HR.out rfl
            rw [show heldE ⟨2, t, d, k, r⟩ = 0 from rfl] at cO
            generalize failT tr wt ⟨2, t, d, k, r⟩ N' = q at *
            obtain ⟨pi, pt, pd, pk, pr⟩ := q
            obtain rfl : t = pt := hpt.symm
            clear hpt
            have HP : Hid (rightT tr ⟨pi, t, pd, pk, pr⟩ = true) := hrl
            have hpz : pr.size ≤ maxLen := by have := ((standL_iff _ _ _ _ _).1 (right_parts HP.out).1).2.2.2.2.2.1; unfold maxLen; omega
            have htq := ((restL_iff _ _ _ _ _ _).1 (right_parts HP.out).2).1
            replace cO : ∀ W, Calls Try.prog 24 #[.agg #[.slice ta tl tc, .int .i64 tr, .int .i64 wt, .int .i64 le], .agg #[.int .i64 2, .int .i64 t, .int .i64 d, .int .i64 k, .string r], .int .i64 N'] W fun e w' => e = .returned (.tuple #[.agg #[.int .i64 pi, .int .i64 t, .int .i64 pd, .int .i64 pk, .string pr], .int .i64 0]) ∧ Below W.heap.size W w' := cO
            have cQ := fun W => rightT_any ta tl tc tr wt le pi t pd pk pr W hpz
            have cR := fun W => refRightT_any ta tl tc tr wt le pi t pd pk pr W hpz
            rw [HP.out] at cQ cR
            have aa1 := (boxL_new wr [.int .i64 3, .int .i64 be] 48 rfl).1 1 _ rfl
            have ax0 := ((boxL_new wr [.int .i64 3, .int .i64 be] 48 rfl).alloc (.cells #[.int .i64 2, .int .i64 t, .int .i64 d, .int .i64 k, .string r] 26)).1 0 _ rfl
            have bsa := bs.alloc (.cells #[.int .i64 3, .int .i64 be] 48)
            have bsx := bsa.alloc (.cells #[.int .i64 2, .int .i64 t, .int .i64 d, .int .i64 k, .string r] 26)
            have btx := (bt.alloc (.cells #[.int .i64 3, .int .i64 be] 48)).alloc (.cells #[.int .i64 2, .int .i64 t, .int .i64 d, .int .i64 k, .string r] 26)
            have sa0 := bsa.1 0 _ rfl
            have sx0 := bsx.1 0 _ rfl
            have sa1 := bsa.1 1 _ rfl
            have sx1 := bsx.1 1 _ rfl
            have sa2 := bsa.1 2 _ rfl
            have sx2 := bsx.1 2 _ rfl
            have sa3 := bsa.1 3 _ rfl
            have sx3 := bsx.1 3 _ rfl
            have sa4 := bsa.1 4 _ rfl
            have sx4 := bsx.1 4 _ rfl
            have tx0 := btx.1 0 _ rfl
            have tx1 := btx.1 1 _ rfl
            have tx2 := btx.1 2 _ rfl
            have tx3 := btx.1 3 _ rfl
            clear bsa bsx btx
            clear hpz hrz hrl
            as_aux_lemma =>
              go_wp2_with (first
                | (go_at_call 24; refine (cO _).mono ?_; rintro e v1 ⟨rfl, hb⟩; clear sa0 sa1 sa2 sa3 sa4 sx0 sx1 sx2 sx3 sx4 tx0 tx1 tx2 tx3 aa1 ax0; have bt1 := ((bt.alloc (.cells #[.int .i64 3, .int .i64 be] 48)).alloc (.cells #[.int .i64 2, .int .i64 t, .int .i64 d, .int .i64 k, .string r] 26)).below hb; have bs1 := ((bs.alloc (.cells #[.int .i64 3, .int .i64 be] 48)).alloc (.cells #[.int .i64 2, .int .i64 t, .int .i64 d, .int .i64 k, .string r] 26)).below hb; have bx1 := (boxL_new (wr.alloc (.cells #[.int .i64 3, .int .i64 be] 48)) [.int .i64 2, .int .i64 t, .int .i64 d, .int .i64 k, .string r] 26 (h := wr.heap.size + 1) (by simp)).below hb; have hB1 := Below.tr ((hB.alloc hsz (.cells #[.int .i64 3, .int .i64 be] 48)).alloc (by simp; omega) (.cells #[.int .i64 2, .int .i64 t, .int .i64 d, .int .i64 k, .string r] 26)) hb; clear hb bt bs hB; generalize wr.heap.size + 1 = hx at *; have o0 := bx1.1 0 _ rfl; have o1 := bx1.1 1 _ rfl; have o2 := bx1.1 2 _ rfl; have o3 := bx1.1 3 _ rfl; have o4 := bx1.1 4 _ rfl; have f0 := bx1.2 0 (by simp); have f1 := bx1.2 1 (by simp); have f2 := bx1.2 2 (by simp); have f3 := bx1.2 3 (by simp); have f4 := bx1.2 4 (by simp); have bx := boxL_set5 bx1 (.int .i64 pi) (.int .i64 t) (.int .i64 pd) (.int .i64 pk) (.string pr); have bt := boxL_off5 bt1 n2 (.int .i64 pi) (.int .i64 t) (.int .i64 pd) (.int .i64 pk) (.string pr); have bs := boxL_off5 bs1 n1 (.int .i64 pi) (.int .i64 t) (.int .i64 pd) (.int .i64 pk) (.string pr); have hB := below_setT hB1 n3 (.int .i64 pi) (.int .i64 t) (.int .i64 pd) (.int .i64 pk) (.string pr); clear bx1 bt1 bs1 hB1)
                | (obtain ⟨U, hU⟩ : ∃ U, U = (((((v1.setCell ⟨hx, 0, none⟩ (.int .i64 pi)).setCell ⟨hx, 1, none⟩ (.int .i64 t)).setCell ⟨hx, 2, none⟩ (.int .i64 pd)).setCell ⟨hx, 3, none⟩ (.int .i64 pk)).setCell ⟨hx, 4, none⟩ (.string pr)) := ⟨_, rfl⟩; rw [← hU]; rw [← hU] at bx bt bs hB; clear hU o0 o1 o2 o3 o4 f0 f1 f2 f3 f4; have s0 := bs.1 0 _ rfl; have s1 := bs.1 1 _ rfl; have s2 := bs.1 2 _ rfl; have s3 := bs.1 3 _ rfl; have s4 := bs.1 4 _ rfl; have y0 := bx.1 0 _ rfl; have y1 := bx.1 1 _ rfl; have y2 := bx.1 2 _ rfl; have y3 := bx.1 3 _ rfl; have y4 := bx.1 4 _ rfl; have f0 := bx.2 0 (by simp); have f1 := bx.2 1 (by simp); have f2 := bx.2 2 (by simp); have f3 := bx.2 3 (by simp); have f4 := bx.2 4 (by simp); have x0 := bt.1 0 _ rfl; have x1 := bt.1 1 _ rfl; have x2 := bt.1 2 _ rfl; have x3 := bt.1 3 _ rfl; skip)
                | (go_at_call 10; refine (cQ _).mono ?_; rintro e v2 ⟨rfl, hb⟩; replace bx := bx.below hb; replace bt := bt.below hb; replace bs := bs.below hb; replace hB := Below.tr hB hb; clear hb s0 s1 s2 s3 s4 y0 y1 y2 y3 y4 x0 x1 x2 x3; have s0 := bs.1 0 _ rfl; have s1 := bs.1 1 _ rfl; have s2 := bs.1 2 _ rfl; have s3 := bs.1 3 _ rfl; have s4 := bs.1 4 _ rfl; have y0 := bx.1 0 _ rfl; have y1 := bx.1 1 _ rfl; have y2 := bx.1 2 _ rfl; have y3 := bx.1 3 _ rfl; have y4 := bx.1 4 _ rfl; have x0 := bt.1 0 _ rfl; have x1 := bt.1 1 _ rfl; have x2 := bt.1 2 _ rfl; have x3 := bt.1 3 _ rfl; skip)
                | (go_at_call 11; refine (cR _).mono ?_; rintro e v3 ⟨rfl, hb⟩; replace bx := bx.below hb; replace bt := bt.below hb; replace bs := bs.below hb; replace hB := Below.tr hB hb; clear hb s0 s1 s2 s3 s4 y0 y1 y2 y3 y4 x0 x1 x2 x3; have s0 := bs.1 0 _ rfl; have s1 := bs.1 1 _ rfl; have s2 := bs.1 2 _ rfl; have s3 := bs.1 3 _ rfl; have s4 := bs.1 4 _ rfl; have y0 := bx.1 0 _ rfl; have y1 := bx.1 1 _ rfl; have y2 := bx.1 2 _ rfl; have y3 := bx.1 3 _ rfl; have y4 := bx.1 4 _ rfl; have x0 := bt.1 0 _ rfl; have x1 := bt.1 1 _ rfl; have x2 := bt.1 2 _ rfl; have x3 := bt.1 3 _ rfl; have g0 := bs.2 0 (by simp); have g1 := bs.2 1 (by simp); have g2 := bs.2 2 (by simp); have g3 := bs.2 3 (by simp); have g4 := bs.2 4 (by simp); skip))
              all_goals go_roundw
              case rel => exact ⟨j + 1, N', pi, t, pd, pk, pr, by omega, by omega, by go_num, rfl, rfl, hN'0, hN'1, HP, boxL_off5 bt n5 (.int .i64 pi) (.int .i64 t) (.int .i64 pd) (.int .i64 pk) (.string pr), boxL_set5 bs (.int .i64 pi) (.int .i64 t) (.int .i64 pd) (.int .i64 pk) (.string pr), below_setT hB n6 (.int .i64 pi) (.int .i64 t) (.int .i64 pd) (.int .i64 pk) (.string pr)⟩
              case measure => simp [intOf]; omega
          rw [show failT tr wt ⟨i, t, d, k, r⟩ N' = zeroT from if_neg hl, show heldE ⟨i, t, d, k, r⟩ = 191 from if_neg hl] at cO
          clear hl
          by_cases i3 : i = 3
          · subst i3
            have HP := HR
            have hpz := hrz
            replace cO : ∀ W, Calls Try.prog 24 #[.agg #[.slice ta tl tc, .int .i64 tr, .int .i64 wt, .int .i64 le], .agg #[.int .i64 3, .int .i64 t, .int .i64 d, .int .i64 k, .string r], .int .i64 N'] W fun e w' => e = .returned (.tuple #[.agg #[.int .i64 0, .int .i64 0, .int .i64 0, .int .i64 0, .string ⟨#[]⟩], .int .i64 191]) ∧ Below W.heap.size W w' := cO
            have cQ := fun W => rightT_any ta tl tc tr wt le 3 t d k r W hpz
            have cR := fun W => refRightT_any ta tl tc tr wt le 3 t d k r W hpz
            rw [HP.out] at cQ cR
            have aa1 := (boxL_new wr [.int .i64 3, .int .i64 be] 48 rfl).1 1 _ rfl
            have ax0 := ((boxL_new wr [.int .i64 3, .int .i64 be] 48 rfl).alloc (.cells #[.int .i64 3, .int .i64 t, .int .i64 d, .int .i64 k, .string r] 26)).1 0 _ rfl
            have bsa := bs.alloc (.cells #[.int .i64 3, .int .i64 be] 48)
            have bsx := bsa.alloc (.cells #[.int .i64 3, .int .i64 t, .int .i64 d, .int .i64 k, .string r] 26)
            have btx := (bt.alloc (.cells #[.int .i64 3, .int .i64 be] 48)).alloc (.cells #[.int .i64 3, .int .i64 t, .int .i64 d, .int .i64 k, .string r] 26)
            have sa0 := bsa.1 0 _ rfl
            have sx0 := bsx.1 0 _ rfl
            have sa1 := bsa.1 1 _ rfl
            have sx1 := bsx.1 1 _ rfl
            have sa2 := bsa.1 2 _ rfl
            have sx2 := bsx.1 2 _ rfl
            have sa3 := bsa.1 3 _ rfl
            have sx3 := bsx.1 3 _ rfl
            have sa4 := bsa.1 4 _ rfl
            have sx4 := bsx.1 4 _ rfl
            have tx0 := btx.1 0 _ rfl
            have tx1 := btx.1 1 _ rfl
            have tx2 := btx.1 2 _ rfl
            have tx3 := btx.1 3 _ rfl
            clear bsa bsx btx
            clear hpz hrz
            as_aux_lemma =>
              go_wp2_with (first
                | (go_at_call 24; refine (cO _).mono ?_; rintro e v1 ⟨rfl, hb⟩; clear sa0 sa1 sa2 sa3 sa4 sx0 sx1 sx2 sx3 sx4 tx0 tx1 tx2 tx3 aa1 ax0; have bt1 := ((bt.alloc (.cells #[.int .i64 3, .int .i64 be] 48)).alloc (.cells #[.int .i64 3, .int .i64 t, .int .i64 d, .int .i64 k, .string r] 26)).below hb; have bs1 := ((bs.alloc (.cells #[.int .i64 3, .int .i64 be] 48)).alloc (.cells #[.int .i64 3, .int .i64 t, .int .i64 d, .int .i64 k, .string r] 26)).below hb; have bx1 := (boxL_new (wr.alloc (.cells #[.int .i64 3, .int .i64 be] 48)) [.int .i64 3, .int .i64 t, .int .i64 d, .int .i64 k, .string r] 26 (h := wr.heap.size + 1) (by simp)).below hb; have hB1 := Below.tr ((hB.alloc hsz (.cells #[.int .i64 3, .int .i64 be] 48)).alloc (by simp; omega) (.cells #[.int .i64 3, .int .i64 t, .int .i64 d, .int .i64 k, .string r] 26)) hb; clear hb bt bs hB; generalize wr.heap.size + 1 = hx at *; have o0 := bx1.1 0 _ rfl; have o1 := bx1.1 1 _ rfl; have o2 := bx1.1 2 _ rfl; have o3 := bx1.1 3 _ rfl; have o4 := bx1.1 4 _ rfl; have f0 := bx1.2 0 (by simp); have f1 := bx1.2 1 (by simp); have f2 := bx1.2 2 (by simp); have f3 := bx1.2 3 (by simp); have f4 := bx1.2 4 (by simp); have bx := boxL_set5 bx1 (.int .i64 0) (.int .i64 0) (.int .i64 0) (.int .i64 0) (.string ⟨#[]⟩); have bt := boxL_off5 bt1 n2 (.int .i64 0) (.int .i64 0) (.int .i64 0) (.int .i64 0) (.string ⟨#[]⟩); have bs := boxL_off5 bs1 n1 (.int .i64 0) (.int .i64 0) (.int .i64 0) (.int .i64 0) (.string ⟨#[]⟩); have hB := below_setT hB1 n3 (.int .i64 0) (.int .i64 0) (.int .i64 0) (.int .i64 0) (.string ⟨#[]⟩); clear bx1 bt1 bs1 hB1)
                | (obtain ⟨U, hU⟩ : ∃ U, U = (((((v1.setCell ⟨hx, 0, none⟩ (.int .i64 0)).setCell ⟨hx, 1, none⟩ (.int .i64 0)).setCell ⟨hx, 2, none⟩ (.int .i64 0)).setCell ⟨hx, 3, none⟩ (.int .i64 0)).setCell ⟨hx, 4, none⟩ (.string ⟨#[]⟩)) := ⟨_, rfl⟩; rw [← hU]; rw [← hU] at bx bt bs hB; clear hU o0 o1 o2 o3 o4 f0 f1 f2 f3 f4; have s0 := bs.1 0 _ rfl; have s1 := bs.1 1 _ rfl; have s2 := bs.1 2 _ rfl; have s3 := bs.1 3 _ rfl; have s4 := bs.1 4 _ rfl; have y0 := bx.1 0 _ rfl; have y1 := bx.1 1 _ rfl; have y2 := bx.1 2 _ rfl; have y3 := bx.1 3 _ rfl; have y4 := bx.1 4 _ rfl; have f0 := bx.2 0 (by simp); have f1 := bx.2 1 (by simp); have f2 := bx.2 2 (by simp); have f3 := bx.2 3 (by simp); have f4 := bx.2 4 (by simp); have x0 := bt.1 0 _ rfl; have x1 := bt.1 1 _ rfl; have x2 := bt.1 2 _ rfl; have x3 := bt.1 3 _ rfl; skip)
                | (obtain ⟨U2, hU⟩ : ∃ U2, U2 = (((((U.setCell ⟨hx, 0, none⟩ (.int .i64 3)).setCell ⟨hx, 1, none⟩ (.int .i64 t)).setCell ⟨hx, 2, none⟩ (.int .i64 d)).setCell ⟨hx, 3, none⟩ (.int .i64 k)).setCell ⟨hx, 4, none⟩ (.string r)) := ⟨_, rfl⟩; rw [← hU]; have bx2 := boxL_set5 bx (.int .i64 3) (.int .i64 t) (.int .i64 d) (.int .i64 k) (.string r); have bt2 := boxL_off5 bt n2 (.int .i64 3) (.int .i64 t) (.int .i64 d) (.int .i64 k) (.string r); have bs2 := boxL_off5 bs n1 (.int .i64 3) (.int .i64 t) (.int .i64 d) (.int .i64 k) (.string r); have hB2 := below_setT hB n3 (.int .i64 3) (.int .i64 t) (.int .i64 d) (.int .i64 k) (.string r); rw [← hU] at bx2 bt2 bs2 hB2; clear hU bx bt bs hB s0 s1 s2 s3 s4 y0 y1 y2 y3 y4 f0 f1 f2 f3 f4 x0 x1 x2 x3; have bx := bx2; have bt := bt2; have bs := bs2; have hB := hB2; clear bx2 bt2 bs2 hB2; have s0 := bs.1 0 _ rfl; have s1 := bs.1 1 _ rfl; have s2 := bs.1 2 _ rfl; have s3 := bs.1 3 _ rfl; have s4 := bs.1 4 _ rfl; have y0 := bx.1 0 _ rfl; have y1 := bx.1 1 _ rfl; have y2 := bx.1 2 _ rfl; have y3 := bx.1 3 _ rfl; have y4 := bx.1 4 _ rfl; have x0 := bt.1 0 _ rfl; have x1 := bt.1 1 _ rfl; have x2 := bt.1 2 _ rfl; have x3 := bt.1 3 _ rfl; skip)
                | (go_at_call 10; refine (cQ _).mono ?_; rintro e v2 ⟨rfl, hb⟩; replace bx := bx.below hb; replace bt := bt.below hb; replace bs := bs.below hb; replace hB := Below.tr hB hb; clear hb s0 s1 s2 s3 s4 y0 y1 y2 y3 y4 x0 x1 x2 x3; have s0 := bs.1 0 _ rfl; have s1 := bs.1 1 _ rfl; have s2 := bs.1 2 _ rfl; have s3 := bs.1 3 _ rfl; have s4 := bs.1 4 _ rfl; have y0 := bx.1 0 _ rfl; have y1 := bx.1 1 _ rfl; have y2 := bx.1 2 _ rfl; have y3 := bx.1 3 _ rfl; have y4 := bx.1 4 _ rfl; have x0 := bt.1 0 _ rfl; have x1 := bt.1 1 _ rfl; have x2 := bt.1 2 _ rfl; have x3 := bt.1 3 _ rfl; skip)
                | (go_at_call 11; refine (cR _).mono ?_; rintro e v3 ⟨rfl, hb⟩; replace bx := bx.below hb; replace bt := bt.below hb; replace bs := bs.below hb; replace hB := Below.tr hB hb; clear hb s0 s1 s2 s3 s4 y0 y1 y2 y3 y4 x0 x1 x2 x3; have s0 := bs.1 0 _ rfl; have s1 := bs.1 1 _ rfl; have s2 := bs.1 2 _ rfl; have s3 := bs.1 3 _ rfl; have s4 := bs.1 4 _ rfl; have y0 := bx.1 0 _ rfl; have y1 := bx.1 1 _ rfl; have y2 := bx.1 2 _ rfl; have y3 := bx.1 3 _ rfl; have y4 := bx.1 4 _ rfl; have x0 := bt.1 0 _ rfl; have x1 := bt.1 1 _ rfl; have x2 := bt.1 2 _ rfl; have x3 := bt.1 3 _ rfl; have g0 := bs.2 0 (by simp); have g1 := bs.2 1 (by simp); have g2 := bs.2 2 (by simp); have g3 := bs.2 3 (by simp); have g4 := bs.2 4 (by simp); skip))
              all_goals go_roundw
              case rel => exact ⟨j + 1, N', 3, t, d, k, r, by omega, by omega, by go_num, rfl, rfl, hN'0, hN'1, HP, boxL_off5 bt n5 (.int .i64 3) (.int .i64 t) (.int .i64 d) (.int .i64 k) (.string r), boxL_set5 bs (.int .i64 3) (.int .i64 t) (.int .i64 d) (.int .i64 k) (.string r), below_setT hB n6 (.int .i64 3) (.int .i64 t) (.int .i64 d) (.int .i64 k) (.string r)⟩
              case measure => simp [intOf]; omega
          by_cases i4 : i = 4
          · subst i4
            have HP := HR
            have hpz := hrz
            replace cO : ∀ W, Calls Try.prog 24 #[.agg #[.slice ta tl tc, .int .i64 tr, .int .i64 wt, .int .i64 le], .agg #[.int .i64 4, .int .i64 t, .int .i64 d, .int .i64 k, .string r], .int .i64 N'] W fun e w' => e = .returned (.tuple #[.agg #[.int .i64 0, .int .i64 0, .int .i64 0, .int .i64 0, .string ⟨#[]⟩], .int .i64 191]) ∧ Below W.heap.size W w' := cO
            have cQ := fun W => rightT_any ta tl tc tr wt le 4 t d k r W hpz
            have cR := fun W => refRightT_any ta tl tc tr wt le 4 t d k r W hpz
            rw [HP.out] at cQ cR
            have aa1 := (boxL_new wr [.int .i64 3, .int .i64 be] 48 rfl).1 1 _ rfl
            have ax0 := ((boxL_new wr [.int .i64 3, .int .i64 be] 48 rfl).alloc (.cells #[.int .i64 4, .int .i64 t, .int .i64 d, .int .i64 k, .string r] 26)).1 0 _ rfl
            have bsa := bs.alloc (.cells #[.int .i64 3, .int .i64 be] 48)
            have bsx := bsa.alloc (.cells #[.int .i64 4, .int .i64 t, .int .i64 d, .int .i64 k, .string r] 26)
            have btx := (bt.alloc (.cells #[.int .i64 3, .int .i64 be] 48)).alloc (.cells #[.int .i64 4, .int .i64 t, .int .i64 d, .int .i64 k, .string r] 26)
            have sa0 := bsa.1 0 _ rfl
            have sx0 := bsx.1 0 _ rfl
            have sa1 := bsa.1 1 _ rfl
            have sx1 := bsx.1 1 _ rfl
            have sa2 := bsa.1 2 _ rfl
            have sx2 := bsx.1 2 _ rfl
            have sa3 := bsa.1 3 _ rfl
            have sx3 := bsx.1 3 _ rfl
            have sa4 := bsa.1 4 _ rfl
            have sx4 := bsx.1 4 _ rfl
            have tx0 := btx.1 0 _ rfl
            have tx1 := btx.1 1 _ rfl
            have tx2 := btx.1 2 _ rfl
            have tx3 := btx.1 3 _ rfl
            clear bsa bsx btx
            clear hpz hrz
            as_aux_lemma =>
              go_wp2_with (first
                | (go_at_call 24; refine (cO _).mono ?_; rintro e v1 ⟨rfl, hb⟩; clear sa0 sa1 sa2 sa3 sa4 sx0 sx1 sx2 sx3 sx4 tx0 tx1 tx2 tx3 aa1 ax0; have bt1 := ((bt.alloc (.cells #[.int .i64 3, .int .i64 be] 48)).alloc (.cells #[.int .i64 4, .int .i64 t, .int .i64 d, .int .i64 k, .string r] 26)).below hb; have bs1 := ((bs.alloc (.cells #[.int .i64 3, .int .i64 be] 48)).alloc (.cells #[.int .i64 4, .int .i64 t, .int .i64 d, .int .i64 k, .string r] 26)).below hb; have bx1 := (boxL_new (wr.alloc (.cells #[.int .i64 3, .int .i64 be] 48)) [.int .i64 4, .int .i64 t, .int .i64 d, .int .i64 k, .string r] 26 (h := wr.heap.size + 1) (by simp)).below hb; have hB1 := Below.tr ((hB.alloc hsz (.cells #[.int .i64 3, .int .i64 be] 48)).alloc (by simp; omega) (.cells #[.int .i64 4, .int .i64 t, .int .i64 d, .int .i64 k, .string r] 26)) hb; clear hb bt bs hB; generalize wr.heap.size + 1 = hx at *; have o0 := bx1.1 0 _ rfl; have o1 := bx1.1 1 _ rfl; have o2 := bx1.1 2 _ rfl; have o3 := bx1.1 3 _ rfl; have o4 := bx1.1 4 _ rfl; have f0 := bx1.2 0 (by simp); have f1 := bx1.2 1 (by simp); have f2 := bx1.2 2 (by simp); have f3 := bx1.2 3 (by simp); have f4 := bx1.2 4 (by simp); have bx := boxL_set5 bx1 (.int .i64 0) (.int .i64 0) (.int .i64 0) (.int .i64 0) (.string ⟨#[]⟩); have bt := boxL_off5 bt1 n2 (.int .i64 0) (.int .i64 0) (.int .i64 0) (.int .i64 0) (.string ⟨#[]⟩); have bs := boxL_off5 bs1 n1 (.int .i64 0) (.int .i64 0) (.int .i64 0) (.int .i64 0) (.string ⟨#[]⟩); have hB := below_setT hB1 n3 (.int .i64 0) (.int .i64 0) (.int .i64 0) (.int .i64 0) (.string ⟨#[]⟩); clear bx1 bt1 bs1 hB1)
                | (obtain ⟨U, hU⟩ : ∃ U, U = (((((v1.setCell ⟨hx, 0, none⟩ (.int .i64 0)).setCell ⟨hx, 1, none⟩ (.int .i64 0)).setCell ⟨hx, 2, none⟩ (.int .i64 0)).setCell ⟨hx, 3, none⟩ (.int .i64 0)).setCell ⟨hx, 4, none⟩ (.string ⟨#[]⟩)) := ⟨_, rfl⟩; rw [← hU]; rw [← hU] at bx bt bs hB; clear hU o0 o1 o2 o3 o4 f0 f1 f2 f3 f4; have s0 := bs.1 0 _ rfl; have s1 := bs.1 1 _ rfl; have s2 := bs.1 2 _ rfl; have s3 := bs.1 3 _ rfl; have s4 := bs.1 4 _ rfl; have y0 := bx.1 0 _ rfl; have y1 := bx.1 1 _ rfl; have y2 := bx.1 2 _ rfl; have y3 := bx.1 3 _ rfl; have y4 := bx.1 4 _ rfl; have f0 := bx.2 0 (by simp); have f1 := bx.2 1 (by simp); have f2 := bx.2 2 (by simp); have f3 := bx.2 3 (by simp); have f4 := bx.2 4 (by simp); have x0 := bt.1 0 _ rfl; have x1 := bt.1 1 _ rfl; have x2 := bt.1 2 _ rfl; have x3 := bt.1 3 _ rfl; skip)
                | (obtain ⟨U2, hU⟩ : ∃ U2, U2 = (((((U.setCell ⟨hx, 0, none⟩ (.int .i64 4)).setCell ⟨hx, 1, none⟩ (.int .i64 t)).setCell ⟨hx, 2, none⟩ (.int .i64 d)).setCell ⟨hx, 3, none⟩ (.int .i64 k)).setCell ⟨hx, 4, none⟩ (.string r)) := ⟨_, rfl⟩; rw [← hU]; have bx2 := boxL_set5 bx (.int .i64 4) (.int .i64 t) (.int .i64 d) (.int .i64 k) (.string r); have bt2 := boxL_off5 bt n2 (.int .i64 4) (.int .i64 t) (.int .i64 d) (.int .i64 k) (.string r); have bs2 := boxL_off5 bs n1 (.int .i64 4) (.int .i64 t) (.int .i64 d) (.int .i64 k) (.string r); have hB2 := below_setT hB n3 (.int .i64 4) (.int .i64 t) (.int .i64 d) (.int .i64 k) (.string r); rw [← hU] at bx2 bt2 bs2 hB2; clear hU bx bt bs hB s0 s1 s2 s3 s4 y0 y1 y2 y3 y4 f0 f1 f2 f3 f4 x0 x1 x2 x3; have bx := bx2; have bt := bt2; have bs := bs2; have hB := hB2; clear bx2 bt2 bs2 hB2; have s0 := bs.1 0 _ rfl; have s1 := bs.1 1 _ rfl; have s2 := bs.1 2 _ rfl; have s3 := bs.1 3 _ rfl; have s4 := bs.1 4 _ rfl; have y0 := bx.1 0 _ rfl; have y1 := bx.1 1 _ rfl; have y2 := bx.1 2 _ rfl; have y3 := bx.1 3 _ rfl; have y4 := bx.1 4 _ rfl; have x0 := bt.1 0 _ rfl; have x1 := bt.1 1 _ rfl; have x2 := bt.1 2 _ rfl; have x3 := bt.1 3 _ rfl; skip)
                | (go_at_call 10; refine (cQ _).mono ?_; rintro e v2 ⟨rfl, hb⟩; replace bx := bx.below hb; replace bt := bt.below hb; replace bs := bs.below hb; replace hB := Below.tr hB hb; clear hb s0 s1 s2 s3 s4 y0 y1 y2 y3 y4 x0 x1 x2 x3; have s0 := bs.1 0 _ rfl; have s1 := bs.1 1 _ rfl; have s2 := bs.1 2 _ rfl; have s3 := bs.1 3 _ rfl; have s4 := bs.1 4 _ rfl; have y0 := bx.1 0 _ rfl; have y1 := bx.1 1 _ rfl; have y2 := bx.1 2 _ rfl; have y3 := bx.1 3 _ rfl; have y4 := bx.1 4 _ rfl; have x0 := bt.1 0 _ rfl; have x1 := bt.1 1 _ rfl; have x2 := bt.1 2 _ rfl; have x3 := bt.1 3 _ rfl; skip)
                | (go_at_call 11; refine (cR _).mono ?_; rintro e v3 ⟨rfl, hb⟩; replace bx := bx.below hb; replace bt := bt.below hb; replace bs := bs.below hb; replace hB := Below.tr hB hb; clear hb s0 s1 s2 s3 s4 y0 y1 y2 y3 y4 x0 x1 x2 x3; have s0 := bs.1 0 _ rfl; have s1 := bs.1 1 _ rfl; have s2 := bs.1 2 _ rfl; have s3 := bs.1 3 _ rfl; have s4 := bs.1 4 _ rfl; have y0 := bx.1 0 _ rfl; have y1 := bx.1 1 _ rfl; have y2 := bx.1 2 _ rfl; have y3 := bx.1 3 _ rfl; have y4 := bx.1 4 _ rfl; have x0 := bt.1 0 _ rfl; have x1 := bt.1 1 _ rfl; have x2 := bt.1 2 _ rfl; have x3 := bt.1 3 _ rfl; have g0 := bs.2 0 (by simp); have g1 := bs.2 1 (by simp); have g2 := bs.2 2 (by simp); have g3 := bs.2 3 (by simp); have g4 := bs.2 4 (by simp); skip))
              all_goals go_roundw
              case rel => exact ⟨j + 1, N', 4, t, d, k, r, by omega, by omega, by go_num, rfl, rfl, hN'0, hN'1, HP, boxL_off5 bt n5 (.int .i64 4) (.int .i64 t) (.int .i64 d) (.int .i64 k) (.string r), boxL_set5 bs (.int .i64 4) (.int .i64 t) (.int .i64 d) (.int .i64 k) (.string r), below_setT hB n6 (.int .i64 4) (.int .i64 t) (.int .i64 d) (.int .i64 k) (.string r)⟩
              case measure => simp [intOf]; omega
          by_cases i5 : i = 5
          · subst i5
            have HP := HR
            have hpz := hrz
            replace cO : ∀ W, Calls Try.prog 24 #[.agg #[.slice ta tl tc, .int .i64 tr, .int .i64 wt, .int .i64 le], .agg #[.int .i64 5, .int .i64 t, .int .i64 d, .int .i64 k, .string r], .int .i64 N'] W fun e w' => e = .returned (.tuple #[.agg #[.int .i64 0, .int .i64 0, .int .i64 0, .int .i64 0, .string ⟨#[]⟩], .int .i64 191]) ∧ Below W.heap.size W w' := cO
            have cQ := fun W => rightT_any ta tl tc tr wt le 5 t d k r W hpz
            have cR := fun W => refRightT_any ta tl tc tr wt le 5 t d k r W hpz
            rw [HP.out] at cQ cR
            have aa1 := (boxL_new wr [.int .i64 3, .int .i64 be] 48 rfl).1 1 _ rfl
            have ax0 := ((boxL_new wr [.int .i64 3, .int .i64 be] 48 rfl).alloc (.cells #[.int .i64 5, .int .i64 t, .int .i64 d, .int .i64 k, .string r] 26)).1 0 _ rfl
            have bsa := bs.alloc (.cells #[.int .i64 3, .int .i64 be] 48)
            have bsx := bsa.alloc (.cells #[.int .i64 5, .int .i64 t, .int .i64 d, .int .i64 k, .string r] 26)
            have btx := (bt.alloc (.cells #[.int .i64 3, .int .i64 be] 48)).alloc (.cells #[.int .i64 5, .int .i64 t, .int .i64 d, .int .i64 k, .string r] 26)
            have sa0 := bsa.1 0 _ rfl
            have sx0 := bsx.1 0 _ rfl
            have sa1 := bsa.1 1 _ rfl
            have sx1 := bsx.1 1 _ rfl
            have sa2 := bsa.1 2 _ rfl
            have sx2 := bsx.1 2 _ rfl
            have sa3 := bsa.1 3 _ rfl
            have sx3 := bsx.1 3 _ rfl
            have sa4 := bsa.1 4 _ rfl
            have sx4 := bsx.1 4 _ rfl
            have tx0 := btx.1 0 _ rfl
            have tx1 := btx.1 1 _ rfl
            have tx2 := btx.1 2 _ rfl
            have tx3 := btx.1 3 _ rfl
            clear bsa bsx btx
            clear hpz hrz
            as_aux_lemma =>
              go_wp2_with (first
                | (go_at_call 24; refine (cO _).mono ?_; rintro e v1 ⟨rfl, hb⟩; clear sa0 sa1 sa2 sa3 sa4 sx0 sx1 sx2 sx3 sx4 tx0 tx1 tx2 tx3 aa1 ax0; have bt1 := ((bt.alloc (.cells #[.int .i64 3, .int .i64 be] 48)).alloc (.cells #[.int .i64 5, .int .i64 t, .int .i64 d, .int .i64 k, .string r] 26)).below hb; have bs1 := ((bs.alloc (.cells #[.int .i64 3, .int .i64 be] 48)).alloc (.cells #[.int .i64 5, .int .i64 t, .int .i64 d, .int .i64 k, .string r] 26)).below hb; have bx1 := (boxL_new (wr.alloc (.cells #[.int .i64 3, .int .i64 be] 48)) [.int .i64 5, .int .i64 t, .int .i64 d, .int .i64 k, .string r] 26 (h := wr.heap.size + 1) (by simp)).below hb; have hB1 := Below.tr ((hB.alloc hsz (.cells #[.int .i64 3, .int .i64 be] 48)).alloc (by simp; omega) (.cells #[.int .i64 5, .int .i64 t, .int .i64 d, .int .i64 k, .string r] 26)) hb; clear hb bt bs hB; generalize wr.heap.size + 1 = hx at *; have o0 := bx1.1 0 _ rfl; have o1 := bx1.1 1 _ rfl; have o2 := bx1.1 2 _ rfl; have o3 := bx1.1 3 _ rfl; have o4 := bx1.1 4 _ rfl; have f0 := bx1.2 0 (by simp); have f1 := bx1.2 1 (by simp); have f2 := bx1.2 2 (by simp); have f3 := bx1.2 3 (by simp); have f4 := bx1.2 4 (by simp); have bx := boxL_set5 bx1 (.int .i64 0) (.int .i64 0) (.int .i64 0) (.int .i64 0) (.string ⟨#[]⟩); have bt := boxL_off5 bt1 n2 (.int .i64 0) (.int .i64 0) (.int .i64 0) (.int .i64 0) (.string ⟨#[]⟩); have bs := boxL_off5 bs1 n1 (.int .i64 0) (.int .i64 0) (.int .i64 0) (.int .i64 0) (.string ⟨#[]⟩); have hB := below_setT hB1 n3 (.int .i64 0) (.int .i64 0) (.int .i64 0) (.int .i64 0) (.string ⟨#[]⟩); clear bx1 bt1 bs1 hB1)
                | (obtain ⟨U, hU⟩ : ∃ U, U = (((((v1.setCell ⟨hx, 0, none⟩ (.int .i64 0)).setCell ⟨hx, 1, none⟩ (.int .i64 0)).setCell ⟨hx, 2, none⟩ (.int .i64 0)).setCell ⟨hx, 3, none⟩ (.int .i64 0)).setCell ⟨hx, 4, none⟩ (.string ⟨#[]⟩)) := ⟨_, rfl⟩; rw [← hU]; rw [← hU] at bx bt bs hB; clear hU o0 o1 o2 o3 o4 f0 f1 f2 f3 f4; have s0 := bs.1 0 _ rfl; have s1 := bs.1 1 _ rfl; have s2 := bs.1 2 _ rfl; have s3 := bs.1 3 _ rfl; have s4 := bs.1 4 _ rfl; have y0 := bx.1 0 _ rfl; have y1 := bx.1 1 _ rfl; have y2 := bx.1 2 _ rfl; have y3 := bx.1 3 _ rfl; have y4 := bx.1 4 _ rfl; have f0 := bx.2 0 (by simp); have f1 := bx.2 1 (by simp); have f2 := bx.2 2 (by simp); have f3 := bx.2 3 (by simp); have f4 := bx.2 4 (by simp); have x0 := bt.1 0 _ rfl; have x1 := bt.1 1 _ rfl; have x2 := bt.1 2 _ rfl; have x3 := bt.1 3 _ rfl; skip)
                | (obtain ⟨U2, hU⟩ : ∃ U2, U2 = (((((U.setCell ⟨hx, 0, none⟩ (.int .i64 5)).setCell ⟨hx, 1, none⟩ (.int .i64 t)).setCell ⟨hx, 2, none⟩ (.int .i64 d)).setCell ⟨hx, 3, none⟩ (.int .i64 k)).setCell ⟨hx, 4, none⟩ (.string r)) := ⟨_, rfl⟩; rw [← hU]; have bx2 := boxL_set5 bx (.int .i64 5) (.int .i64 t) (.int .i64 d) (.int .i64 k) (.string r); have bt2 := boxL_off5 bt n2 (.int .i64 5) (.int .i64 t) (.int .i64 d) (.int .i64 k) (.string r); have bs2 := boxL_off5 bs n1 (.int .i64 5) (.int .i64 t) (.int .i64 d) (.int .i64 k) (.string r); have hB2 := below_setT hB n3 (.int .i64 5) (.int .i64 t) (.int .i64 d) (.int .i64 k) (.string r); rw [← hU] at bx2 bt2 bs2 hB2; clear hU bx bt bs hB s0 s1 s2 s3 s4 y0 y1 y2 y3 y4 f0 f1 f2 f3 f4 x0 x1 x2 x3; have bx := bx2; have bt := bt2; have bs := bs2; have hB := hB2; clear bx2 bt2 bs2 hB2; have s0 := bs.1 0 _ rfl; have s1 := bs.1 1 _ rfl; have s2 := bs.1 2 _ rfl; have s3 := bs.1 3 _ rfl; have s4 := bs.1 4 _ rfl; have y0 := bx.1 0 _ rfl; have y1 := bx.1 1 _ rfl; have y2 := bx.1 2 _ rfl; have y3 := bx.1 3 _ rfl; have y4 := bx.1 4 _ rfl; have x0 := bt.1 0 _ rfl; have x1 := bt.1 1 _ rfl; have x2 := bt.1 2 _ rfl; have x3 := bt.1 3 _ rfl; skip)
                | (go_at_call 10; refine (cQ _).mono ?_; rintro e v2 ⟨rfl, hb⟩; replace bx := bx.below hb; replace bt := bt.below hb; replace bs := bs.below hb; replace hB := Below.tr hB hb; clear hb s0 s1 s2 s3 s4 y0 y1 y2 y3 y4 x0 x1 x2 x3; have s0 := bs.1 0 _ rfl; have s1 := bs.1 1 _ rfl; have s2 := bs.1 2 _ rfl; have s3 := bs.1 3 _ rfl; have s4 := bs.1 4 _ rfl; have y0 := bx.1 0 _ rfl; have y1 := bx.1 1 _ rfl; have y2 := bx.1 2 _ rfl; have y3 := bx.1 3 _ rfl; have y4 := bx.1 4 _ rfl; have x0 := bt.1 0 _ rfl; have x1 := bt.1 1 _ rfl; have x2 := bt.1 2 _ rfl; have x3 := bt.1 3 _ rfl; skip)
                | (go_at_call 11; refine (cR _).mono ?_; rintro e v3 ⟨rfl, hb⟩; replace bx := bx.below hb; replace bt := bt.below hb; replace bs := bs.below hb; replace hB := Below.tr hB hb; clear hb s0 s1 s2 s3 s4 y0 y1 y2 y3 y4 x0 x1 x2 x3; have s0 := bs.1 0 _ rfl; have s1 := bs.1 1 _ rfl; have s2 := bs.1 2 _ rfl; have s3 := bs.1 3 _ rfl; have s4 := bs.1 4 _ rfl; have y0 := bx.1 0 _ rfl; have y1 := bx.1 1 _ rfl; have y2 := bx.1 2 _ rfl; have y3 := bx.1 3 _ rfl; have y4 := bx.1 4 _ rfl; have x0 := bt.1 0 _ rfl; have x1 := bt.1 1 _ rfl; have x2 := bt.1 2 _ rfl; have x3 := bt.1 3 _ rfl; have g0 := bs.2 0 (by simp); have g1 := bs.2 1 (by simp); have g2 := bs.2 2 (by simp); have g3 := bs.2 3 (by simp); have g4 := bs.2 4 (by simp); skip))
              all_goals go_roundw
              case rel => exact ⟨j + 1, N', 5, t, d, k, r, by omega, by omega, by go_num, rfl, rfl, hN'0, hN'1, HP, boxL_off5 bt n5 (.int .i64 5) (.int .i64 t) (.int .i64 d) (.int .i64 k) (.string r), boxL_set5 bs (.int .i64 5) (.int .i64 t) (.int .i64 d) (.int .i64 k) (.string r), below_setT hB n6 (.int .i64 5) (.int .i64 t) (.int .i64 d) (.int .i64 k) (.string r)⟩
              case measure => simp [intOf]; omega
          have g3 : (i == 3) = false := by simpa using i3
          have g4 : (i == 4) = false := by simpa using i4
          have g5 : (i == 5) = false := by simpa using i5
          clear i3 i4 i5
          have HP := HR
          have hpz := hrz
          replace cO : ∀ W, Calls Try.prog 24 #[.agg #[.slice ta tl tc, .int .i64 tr, .int .i64 wt, .int .i64 le], .agg #[.int .i64 i, .int .i64 t, .int .i64 d, .int .i64 k, .string r], .int .i64 N'] W fun e w' => e = .returned (.tuple #[.agg #[.int .i64 0, .int .i64 0, .int .i64 0, .int .i64 0, .string ⟨#[]⟩], .int .i64 191]) ∧ Below W.heap.size W w' := cO
          have cQ := fun W => rightT_any ta tl tc tr wt le i t d k r W hpz
          have cR := fun W => refRightT_any ta tl tc tr wt le i t d k r W hpz
          rw [HP.out] at cQ cR
          have aa1 := (boxL_new wr [.int .i64 3, .int .i64 be] 48 rfl).1 1 _ rfl
          have ax0 := ((boxL_new wr [.int .i64 3, .int .i64 be] 48 rfl).alloc (.cells #[.int .i64 i, .int .i64 t, .int .i64 d, .int .i64 k, .string r] 26)).1 0 _ rfl
          have bsa := bs.alloc (.cells #[.int .i64 3, .int .i64 be] 48)
          have bsx := bsa.alloc (.cells #[.int .i64 i, .int .i64 t, .int .i64 d, .int .i64 k, .string r] 26)
          have btx := (bt.alloc (.cells #[.int .i64 3, .int .i64 be] 48)).alloc (.cells #[.int .i64 i, .int .i64 t, .int .i64 d, .int .i64 k, .string r] 26)
          have sa0 := bsa.1 0 _ rfl
          have sx0 := bsx.1 0 _ rfl
          have sa1 := bsa.1 1 _ rfl
          have sx1 := bsx.1 1 _ rfl
          have sa2 := bsa.1 2 _ rfl
          have sx2 := bsx.1 2 _ rfl
          have sa3 := bsa.1 3 _ rfl
          have sx3 := bsx.1 3 _ rfl
          have sa4 := bsa.1 4 _ rfl
          have sx4 := bsx.1 4 _ rfl
          have tx0 := btx.1 0 _ rfl
          have tx1 := btx.1 1 _ rfl
          have tx2 := btx.1 2 _ rfl
          have tx3 := btx.1 3 _ rfl
          clear bsa bsx btx
          clear hpz hrz
          as_aux_lemma =>
            go_wp2_with (first
              | (go_at_call 24; refine (cO _).mono ?_; rintro e v1 ⟨rfl, hb⟩; clear sa0 sa1 sa2 sa3 sa4 sx0 sx1 sx2 sx3 sx4 tx0 tx1 tx2 tx3 aa1 ax0; have bt1 := ((bt.alloc (.cells #[.int .i64 3, .int .i64 be] 48)).alloc (.cells #[.int .i64 i, .int .i64 t, .int .i64 d, .int .i64 k, .string r] 26)).below hb; have bs1 := ((bs.alloc (.cells #[.int .i64 3, .int .i64 be] 48)).alloc (.cells #[.int .i64 i, .int .i64 t, .int .i64 d, .int .i64 k, .string r] 26)).below hb; have bx1 := (boxL_new (wr.alloc (.cells #[.int .i64 3, .int .i64 be] 48)) [.int .i64 i, .int .i64 t, .int .i64 d, .int .i64 k, .string r] 26 (h := wr.heap.size + 1) (by simp)).below hb; have hB1 := Below.tr ((hB.alloc hsz (.cells #[.int .i64 3, .int .i64 be] 48)).alloc (by simp; omega) (.cells #[.int .i64 i, .int .i64 t, .int .i64 d, .int .i64 k, .string r] 26)) hb; clear hb bt bs hB; generalize wr.heap.size + 1 = hx at *; have o0 := bx1.1 0 _ rfl; have o1 := bx1.1 1 _ rfl; have o2 := bx1.1 2 _ rfl; have o3 := bx1.1 3 _ rfl; have o4 := bx1.1 4 _ rfl; have f0 := bx1.2 0 (by simp); have f1 := bx1.2 1 (by simp); have f2 := bx1.2 2 (by simp); have f3 := bx1.2 3 (by simp); have f4 := bx1.2 4 (by simp); have bx := boxL_set5 bx1 (.int .i64 0) (.int .i64 0) (.int .i64 0) (.int .i64 0) (.string ⟨#[]⟩); have bt := boxL_off5 bt1 n2 (.int .i64 0) (.int .i64 0) (.int .i64 0) (.int .i64 0) (.string ⟨#[]⟩); have bs := boxL_off5 bs1 n1 (.int .i64 0) (.int .i64 0) (.int .i64 0) (.int .i64 0) (.string ⟨#[]⟩); have hB := below_setT hB1 n3 (.int .i64 0) (.int .i64 0) (.int .i64 0) (.int .i64 0) (.string ⟨#[]⟩); clear bx1 bt1 bs1 hB1)
              | (obtain ⟨U, hU⟩ : ∃ U, U = (((((v1.setCell ⟨hx, 0, none⟩ (.int .i64 0)).setCell ⟨hx, 1, none⟩ (.int .i64 0)).setCell ⟨hx, 2, none⟩ (.int .i64 0)).setCell ⟨hx, 3, none⟩ (.int .i64 0)).setCell ⟨hx, 4, none⟩ (.string ⟨#[]⟩)) := ⟨_, rfl⟩; rw [← hU]; rw [← hU] at bx bt bs hB; clear hU o0 o1 o2 o3 o4 f0 f1 f2 f3 f4; have s0 := bs.1 0 _ rfl; have s1 := bs.1 1 _ rfl; have s2 := bs.1 2 _ rfl; have s3 := bs.1 3 _ rfl; have s4 := bs.1 4 _ rfl; have y0 := bx.1 0 _ rfl; have y1 := bx.1 1 _ rfl; have y2 := bx.1 2 _ rfl; have y3 := bx.1 3 _ rfl; have y4 := bx.1 4 _ rfl; have f0 := bx.2 0 (by simp); have f1 := bx.2 1 (by simp); have f2 := bx.2 2 (by simp); have f3 := bx.2 3 (by simp); have f4 := bx.2 4 (by simp); have x0 := bt.1 0 _ rfl; have x1 := bt.1 1 _ rfl; have x2 := bt.1 2 _ rfl; have x3 := bt.1 3 _ rfl; skip)
              | (obtain ⟨U2, hU⟩ : ∃ U2, U2 = (((((U.setCell ⟨hx, 0, none⟩ (.int .i64 i)).setCell ⟨hx, 1, none⟩ (.int .i64 t)).setCell ⟨hx, 2, none⟩ (.int .i64 d)).setCell ⟨hx, 3, none⟩ (.int .i64 k)).setCell ⟨hx, 4, none⟩ (.string r)) := ⟨_, rfl⟩; rw [← hU]; have bx2 := boxL_set5 bx (.int .i64 i) (.int .i64 t) (.int .i64 d) (.int .i64 k) (.string r); have bt2 := boxL_off5 bt n2 (.int .i64 i) (.int .i64 t) (.int .i64 d) (.int .i64 k) (.string r); have bs2 := boxL_off5 bs n1 (.int .i64 i) (.int .i64 t) (.int .i64 d) (.int .i64 k) (.string r); have hB2 := below_setT hB n3 (.int .i64 i) (.int .i64 t) (.int .i64 d) (.int .i64 k) (.string r); rw [← hU] at bx2 bt2 bs2 hB2; clear hU bx bt bs hB s0 s1 s2 s3 s4 y0 y1 y2 y3 y4 f0 f1 f2 f3 f4 x0 x1 x2 x3; have bx := bx2; have bt := bt2; have bs := bs2; have hB := hB2; clear bx2 bt2 bs2 hB2; have s0 := bs.1 0 _ rfl; have s1 := bs.1 1 _ rfl; have s2 := bs.1 2 _ rfl; have s3 := bs.1 3 _ rfl; have s4 := bs.1 4 _ rfl; have y0 := bx.1 0 _ rfl; have y1 := bx.1 1 _ rfl; have y2 := bx.1 2 _ rfl; have y3 := bx.1 3 _ rfl; have y4 := bx.1 4 _ rfl; have x0 := bt.1 0 _ rfl; have x1 := bt.1 1 _ rfl; have x2 := bt.1 2 _ rfl; have x3 := bt.1 3 _ rfl; skip)
              | (go_at_call 10; refine (cQ _).mono ?_; rintro e v2 ⟨rfl, hb⟩; replace bx := bx.below hb; replace bt := bt.below hb; replace bs := bs.below hb; replace hB := Below.tr hB hb; clear hb s0 s1 s2 s3 s4 y0 y1 y2 y3 y4 x0 x1 x2 x3; have s0 := bs.1 0 _ rfl; have s1 := bs.1 1 _ rfl; have s2 := bs.1 2 _ rfl; have s3 := bs.1 3 _ rfl; have s4 := bs.1 4 _ rfl; have y0 := bx.1 0 _ rfl; have y1 := bx.1 1 _ rfl; have y2 := bx.1 2 _ rfl; have y3 := bx.1 3 _ rfl; have y4 := bx.1 4 _ rfl; have x0 := bt.1 0 _ rfl; have x1 := bt.1 1 _ rfl; have x2 := bt.1 2 _ rfl; have x3 := bt.1 3 _ rfl; skip)
              | (go_at_call 11; refine (cR _).mono ?_; rintro e v3 ⟨rfl, hb⟩; replace bx := bx.below hb; replace bt := bt.below hb; replace bs := bs.below hb; replace hB := Below.tr hB hb; clear hb s0 s1 s2 s3 s4 y0 y1 y2 y3 y4 x0 x1 x2 x3; have s0 := bs.1 0 _ rfl; have s1 := bs.1 1 _ rfl; have s2 := bs.1 2 _ rfl; have s3 := bs.1 3 _ rfl; have s4 := bs.1 4 _ rfl; have y0 := bx.1 0 _ rfl; have y1 := bx.1 1 _ rfl; have y2 := bx.1 2 _ rfl; have y3 := bx.1 3 _ rfl; have y4 := bx.1 4 _ rfl; have x0 := bt.1 0 _ rfl; have x1 := bt.1 1 _ rfl; have x2 := bt.1 2 _ rfl; have x3 := bt.1 3 _ rfl; have g0 := bs.2 0 (by simp); have g1 := bs.2 1 (by simp); have g2 := bs.2 2 (by simp); have g3 := bs.2 3 (by simp); have g4 := bs.2 4 (by simp); skip))
            all_goals go_roundw
            case rel => exact ⟨j + 1, N', i, t, d, k, r, by omega, by omega, by go_num, rfl, rfl, hN'0, hN'1, HP, boxL_off5 bt n5 (.int .i64 i) (.int .i64 t) (.int .i64 d) (.int .i64 k) (.string r), boxL_set5 bs (.int .i64 i) (.int .i64 t) (.int .i64 d) (.int .i64 k) (.string r), below_setT hB n6 (.int .i64 i) (.int .i64 t) (.int .i64 d) (.int .i64 k) (.string r)⟩
            case measure => simp [intOf]; omega
        by_cases q4 : wh = 4
        · subst q4
          clear q0 q1 q2 q3
          have hc := right_expire (wt := wt) (now := N') HR.out
          have cO := fun W => expireT_any ta tl tc tr wt le i t d k r N' W (by omega)
          by_cases i3 : i = 3
          · subst i3
            rw [hc.2.2 (by simp)] at cO
            clear hc
            have HP : Hid (rightT tr ⟨3, t, d, k, r⟩ = true) := HR
            have hpz : r.size ≤ maxLen := hrz
            have htq := ((restL_iff _ _ _ _ _ _).1 (right_parts HP.out).2).1
            replace cO : ∀ W, Calls Try.prog 14 #[.agg #[.slice ta tl tc, .int .i64 tr, .int .i64 wt, .int .i64 le], .agg #[.int .i64 3, .int .i64 t, .int .i64 d, .int .i64 k, .string r], .int .i64 N'] W fun e w' => e = .returned (.agg #[.int .i64 3, .int .i64 t, .int .i64 d, .int .i64 k, .string r]) ∧ Below W.heap.size W w' := cO
            have cQ := fun W => rightT_any ta tl tc tr wt le 3 t d k r W hpz
            have cR := fun W => refRightT_any ta tl tc tr wt le 3 t d k r W hpz
            rw [HP.out] at cQ cR
            have aa1 := (boxL_new wr [.int .i64 4, .int .i64 be] 48 rfl).1 1 _ rfl
            have ax0 := ((boxL_new wr [.int .i64 4, .int .i64 be] 48 rfl).alloc (.cells #[.int .i64 3, .int .i64 t, .int .i64 d, .int .i64 k, .string r] 26)).1 0 _ rfl
            have bsa := bs.alloc (.cells #[.int .i64 4, .int .i64 be] 48)
            have bsx := bsa.alloc (.cells #[.int .i64 3, .int .i64 t, .int .i64 d, .int .i64 k, .string r] 26)
            have btx := (bt.alloc (.cells #[.int .i64 4, .int .i64 be] 48)).alloc (.cells #[.int .i64 3, .int .i64 t, .int .i64 d, .int .i64 k, .string r] 26)
            have sa0 := bsa.1 0 _ rfl
            have sx0 := bsx.1 0 _ rfl
            have sa1 := bsa.1 1 _ rfl
            have sx1 := bsx.1 1 _ rfl
            have sa2 := bsa.1 2 _ rfl
            have sx2 := bsx.1 2 _ rfl
            have sa3 := bsa.1 3 _ rfl
            have sx3 := bsx.1 3 _ rfl
            have sa4 := bsa.1 4 _ rfl
            have sx4 := bsx.1 4 _ rfl
            have tx0 := btx.1 0 _ rfl
            have tx1 := btx.1 1 _ rfl
            have tx2 := btx.1 2 _ rfl
            have tx3 := btx.1 3 _ rfl
            clear bsa bsx btx
            clear hpz hrz
            as_aux_lemma =>
              go_wp2_with (first
                | (go_at_call 14; refine (cO _).mono ?_; rintro e v1 ⟨rfl, hb⟩; clear sa0 sa1 sa2 sa3 sa4 sx0 sx1 sx2 sx3 sx4 tx0 tx1 tx2 tx3 aa1 ax0; have bt1 := ((bt.alloc (.cells #[.int .i64 4, .int .i64 be] 48)).alloc (.cells #[.int .i64 3, .int .i64 t, .int .i64 d, .int .i64 k, .string r] 26)).below hb; have bs1 := ((bs.alloc (.cells #[.int .i64 4, .int .i64 be] 48)).alloc (.cells #[.int .i64 3, .int .i64 t, .int .i64 d, .int .i64 k, .string r] 26)).below hb; have bx1 := (boxL_new (wr.alloc (.cells #[.int .i64 4, .int .i64 be] 48)) [.int .i64 3, .int .i64 t, .int .i64 d, .int .i64 k, .string r] 26 (h := wr.heap.size + 1) (by simp)).below hb; have hB1 := Below.tr ((hB.alloc hsz (.cells #[.int .i64 4, .int .i64 be] 48)).alloc (by simp; omega) (.cells #[.int .i64 3, .int .i64 t, .int .i64 d, .int .i64 k, .string r] 26)) hb; clear hb bt bs hB; generalize wr.heap.size + 1 = hx at *; have o0 := bx1.1 0 _ rfl; have o1 := bx1.1 1 _ rfl; have o2 := bx1.1 2 _ rfl; have o3 := bx1.1 3 _ rfl; have o4 := bx1.1 4 _ rfl; have f0 := bx1.2 0 (by simp); have f1 := bx1.2 1 (by simp); have f2 := bx1.2 2 (by simp); have f3 := bx1.2 3 (by simp); have f4 := bx1.2 4 (by simp); have bx := boxL_set5 bx1 (.int .i64 3) (.int .i64 t) (.int .i64 d) (.int .i64 k) (.string r); have bt := boxL_off5 bt1 n2 (.int .i64 3) (.int .i64 t) (.int .i64 d) (.int .i64 k) (.string r); have bs := boxL_off5 bs1 n1 (.int .i64 3) (.int .i64 t) (.int .i64 d) (.int .i64 k) (.string r); have hB := below_setT hB1 n3 (.int .i64 3) (.int .i64 t) (.int .i64 d) (.int .i64 k) (.string r); clear bx1 bt1 bs1 hB1)
                | (obtain ⟨U, hU⟩ : ∃ U, U = (((((v1.setCell ⟨hx, 0, none⟩ (.int .i64 3)).setCell ⟨hx, 1, none⟩ (.int .i64 t)).setCell ⟨hx, 2, none⟩ (.int .i64 d)).setCell ⟨hx, 3, none⟩ (.int .i64 k)).setCell ⟨hx, 4, none⟩ (.string r)) := ⟨_, rfl⟩; rw [← hU]; rw [← hU] at bx bt bs hB; clear hU o0 o1 o2 o3 o4 f0 f1 f2 f3 f4; have s0 := bs.1 0 _ rfl; have s1 := bs.1 1 _ rfl; have s2 := bs.1 2 _ rfl; have s3 := bs.1 3 _ rfl; have s4 := bs.1 4 _ rfl; have y0 := bx.1 0 _ rfl; have y1 := bx.1 1 _ rfl; have y2 := bx.1 2 _ rfl; have y3 := bx.1 3 _ rfl; have y4 := bx.1 4 _ rfl; have f0 := bx.2 0 (by simp); have f1 := bx.2 1 (by simp); have f2 := bx.2 2 (by simp); have f3 := bx.2 3 (by simp); have f4 := bx.2 4 (by simp); have x0 := bt.1 0 _ rfl; have x1 := bt.1 1 _ rfl; have x2 := bt.1 2 _ rfl; have x3 := bt.1 3 _ rfl; skip)
                | (go_at_call 10; refine (cQ _).mono ?_; rintro e v2 ⟨rfl, hb⟩; replace bx := bx.below hb; replace bt := bt.below hb; replace bs := bs.below hb; replace hB := Below.tr hB hb; clear hb s0 s1 s2 s3 s4 y0 y1 y2 y3 y4 x0 x1 x2 x3; have s0 := bs.1 0 _ rfl; have s1 := bs.1 1 _ rfl; have s2 := bs.1 2 _ rfl; have s3 := bs.1 3 _ rfl; have s4 := bs.1 4 _ rfl; have y0 := bx.1 0 _ rfl; have y1 := bx.1 1 _ rfl; have y2 := bx.1 2 _ rfl; have y3 := bx.1 3 _ rfl; have y4 := bx.1 4 _ rfl; have x0 := bt.1 0 _ rfl; have x1 := bt.1 1 _ rfl; have x2 := bt.1 2 _ rfl; have x3 := bt.1 3 _ rfl; skip)
                | (go_at_call 11; refine (cR _).mono ?_; rintro e v3 ⟨rfl, hb⟩; replace bx := bx.below hb; replace bt := bt.below hb; replace bs := bs.below hb; replace hB := Below.tr hB hb; clear hb s0 s1 s2 s3 s4 y0 y1 y2 y3 y4 x0 x1 x2 x3; have s0 := bs.1 0 _ rfl; have s1 := bs.1 1 _ rfl; have s2 := bs.1 2 _ rfl; have s3 := bs.1 3 _ rfl; have s4 := bs.1 4 _ rfl; have y0 := bx.1 0 _ rfl; have y1 := bx.1 1 _ rfl; have y2 := bx.1 2 _ rfl; have y3 := bx.1 3 _ rfl; have y4 := bx.1 4 _ rfl; have x0 := bt.1 0 _ rfl; have x1 := bt.1 1 _ rfl; have x2 := bt.1 2 _ rfl; have x3 := bt.1 3 _ rfl; have g0 := bs.2 0 (by simp); have g1 := bs.2 1 (by simp); have g2 := bs.2 2 (by simp); have g3 := bs.2 3 (by simp); have g4 := bs.2 4 (by simp); skip))
              all_goals go_roundw
              case rel => exact ⟨j + 1, N', 3, t, d, k, r, by omega, by omega, by go_num, rfl, rfl, hN'0, hN'1, HP, boxL_off5 bt n5 (.int .i64 3) (.int .i64 t) (.int .i64 d) (.int .i64 k) (.string r), boxL_set5 bs (.int .i64 3) (.int .i64 t) (.int .i64 d) (.int .i64 k) (.string r), below_setT hB n6 (.int .i64 3) (.int .i64 t) (.int .i64 d) (.int .i64 k) (.string r)⟩
              case measure => simp [intOf]; omega
          by_cases i4 : i = 4
          · subst i4
            rw [hc.2.2 (by simp)] at cO
            clear hc
            have HP : Hid (rightT tr ⟨4, t, d, k, r⟩ = true) := HR
            have hpz : r.size ≤ maxLen := hrz
            have htq := ((restL_iff _ _ _ _ _ _).1 (right_parts HP.out).2).1
            replace cO : ∀ W, Calls Try.prog 14 #[.agg #[.slice ta tl tc, .int .i64 tr, .int .i64 wt, .int .i64 le], .agg #[.int .i64 4, .int .i64 t, .int .i64 d, .int .i64 k, .string r], .int .i64 N'] W fun e w' => e = .returned (.agg #[.int .i64 4, .int .i64 t, .int .i64 d, .int .i64 k, .string r]) ∧ Below W.heap.size W w' := cO
            have cQ := fun W => rightT_any ta tl tc tr wt le 4 t d k r W hpz
            have cR := fun W => refRightT_any ta tl tc tr wt le 4 t d k r W hpz
            rw [HP.out] at cQ cR
            have aa1 := (boxL_new wr [.int .i64 4, .int .i64 be] 48 rfl).1 1 _ rfl
            have ax0 := ((boxL_new wr [.int .i64 4, .int .i64 be] 48 rfl).alloc (.cells #[.int .i64 4, .int .i64 t, .int .i64 d, .int .i64 k, .string r] 26)).1 0 _ rfl
            have bsa := bs.alloc (.cells #[.int .i64 4, .int .i64 be] 48)
            have bsx := bsa.alloc (.cells #[.int .i64 4, .int .i64 t, .int .i64 d, .int .i64 k, .string r] 26)
            have btx := (bt.alloc (.cells #[.int .i64 4, .int .i64 be] 48)).alloc (.cells #[.int .i64 4, .int .i64 t, .int .i64 d, .int .i64 k, .string r] 26)
            have sa0 := bsa.1 0 _ rfl
            have sx0 := bsx.1 0 _ rfl
            have sa1 := bsa.1 1 _ rfl
            have sx1 := bsx.1 1 _ rfl
            have sa2 := bsa.1 2 _ rfl
            have sx2 := bsx.1 2 _ rfl
            have sa3 := bsa.1 3 _ rfl
            have sx3 := bsx.1 3 _ rfl
            have sa4 := bsa.1 4 _ rfl
            have sx4 := bsx.1 4 _ rfl
            have tx0 := btx.1 0 _ rfl
            have tx1 := btx.1 1 _ rfl
            have tx2 := btx.1 2 _ rfl
            have tx3 := btx.1 3 _ rfl
            clear bsa bsx btx
            clear hpz hrz
            as_aux_lemma =>
              go_wp2_with (first
                | (go_at_call 14; refine (cO _).mono ?_; rintro e v1 ⟨rfl, hb⟩; clear sa0 sa1 sa2 sa3 sa4 sx0 sx1 sx2 sx3 sx4 tx0 tx1 tx2 tx3 aa1 ax0; have bt1 := ((bt.alloc (.cells #[.int .i64 4, .int .i64 be] 48)).alloc (.cells #[.int .i64 4, .int .i64 t, .int .i64 d, .int .i64 k, .string r] 26)).below hb; have bs1 := ((bs.alloc (.cells #[.int .i64 4, .int .i64 be] 48)).alloc (.cells #[.int .i64 4, .int .i64 t, .int .i64 d, .int .i64 k, .string r] 26)).below hb; have bx1 := (boxL_new (wr.alloc (.cells #[.int .i64 4, .int .i64 be] 48)) [.int .i64 4, .int .i64 t, .int .i64 d, .int .i64 k, .string r] 26 (h := wr.heap.size + 1) (by simp)).below hb; have hB1 := Below.tr ((hB.alloc hsz (.cells #[.int .i64 4, .int .i64 be] 48)).alloc (by simp; omega) (.cells #[.int .i64 4, .int .i64 t, .int .i64 d, .int .i64 k, .string r] 26)) hb; clear hb bt bs hB; generalize wr.heap.size + 1 = hx at *; have o0 := bx1.1 0 _ rfl; have o1 := bx1.1 1 _ rfl; have o2 := bx1.1 2 _ rfl; have o3 := bx1.1 3 _ rfl; have o4 := bx1.1 4 _ rfl; have f0 := bx1.2 0 (by simp); have f1 := bx1.2 1 (by simp); have f2 := bx1.2 2 (by simp); have f3 := bx1.2 3 (by simp); have f4 := bx1.2 4 (by simp); have bx := boxL_set5 bx1 (.int .i64 4) (.int .i64 t) (.int .i64 d) (.int .i64 k) (.string r); have bt := boxL_off5 bt1 n2 (.int .i64 4) (.int .i64 t) (.int .i64 d) (.int .i64 k) (.string r); have bs := boxL_off5 bs1 n1 (.int .i64 4) (.int .i64 t) (.int .i64 d) (.int .i64 k) (.string r); have hB := below_setT hB1 n3 (.int .i64 4) (.int .i64 t) (.int .i64 d) (.int .i64 k) (.string r); clear bx1 bt1 bs1 hB1)
                | (obtain ⟨U, hU⟩ : ∃ U, U = (((((v1.setCell ⟨hx, 0, none⟩ (.int .i64 4)).setCell ⟨hx, 1, none⟩ (.int .i64 t)).setCell ⟨hx, 2, none⟩ (.int .i64 d)).setCell ⟨hx, 3, none⟩ (.int .i64 k)).setCell ⟨hx, 4, none⟩ (.string r)) := ⟨_, rfl⟩; rw [← hU]; rw [← hU] at bx bt bs hB; clear hU o0 o1 o2 o3 o4 f0 f1 f2 f3 f4; have s0 := bs.1 0 _ rfl; have s1 := bs.1 1 _ rfl; have s2 := bs.1 2 _ rfl; have s3 := bs.1 3 _ rfl; have s4 := bs.1 4 _ rfl; have y0 := bx.1 0 _ rfl; have y1 := bx.1 1 _ rfl; have y2 := bx.1 2 _ rfl; have y3 := bx.1 3 _ rfl; have y4 := bx.1 4 _ rfl; have f0 := bx.2 0 (by simp); have f1 := bx.2 1 (by simp); have f2 := bx.2 2 (by simp); have f3 := bx.2 3 (by simp); have f4 := bx.2 4 (by simp); have x0 := bt.1 0 _ rfl; have x1 := bt.1 1 _ rfl; have x2 := bt.1 2 _ rfl; have x3 := bt.1 3 _ rfl; skip)
                | (go_at_call 10; refine (cQ _).mono ?_; rintro e v2 ⟨rfl, hb⟩; replace bx := bx.below hb; replace bt := bt.below hb; replace bs := bs.below hb; replace hB := Below.tr hB hb; clear hb s0 s1 s2 s3 s4 y0 y1 y2 y3 y4 x0 x1 x2 x3; have s0 := bs.1 0 _ rfl; have s1 := bs.1 1 _ rfl; have s2 := bs.1 2 _ rfl; have s3 := bs.1 3 _ rfl; have s4 := bs.1 4 _ rfl; have y0 := bx.1 0 _ rfl; have y1 := bx.1 1 _ rfl; have y2 := bx.1 2 _ rfl; have y3 := bx.1 3 _ rfl; have y4 := bx.1 4 _ rfl; have x0 := bt.1 0 _ rfl; have x1 := bt.1 1 _ rfl; have x2 := bt.1 2 _ rfl; have x3 := bt.1 3 _ rfl; skip)
                | (go_at_call 11; refine (cR _).mono ?_; rintro e v3 ⟨rfl, hb⟩; replace bx := bx.below hb; replace bt := bt.below hb; replace bs := bs.below hb; replace hB := Below.tr hB hb; clear hb s0 s1 s2 s3 s4 y0 y1 y2 y3 y4 x0 x1 x2 x3; have s0 := bs.1 0 _ rfl; have s1 := bs.1 1 _ rfl; have s2 := bs.1 2 _ rfl; have s3 := bs.1 3 _ rfl; have s4 := bs.1 4 _ rfl; have y0 := bx.1 0 _ rfl; have y1 := bx.1 1 _ rfl; have y2 := bx.1 2 _ rfl; have y3 := bx.1 3 _ rfl; have y4 := bx.1 4 _ rfl; have x0 := bt.1 0 _ rfl; have x1 := bt.1 1 _ rfl; have x2 := bt.1 2 _ rfl; have x3 := bt.1 3 _ rfl; have g0 := bs.2 0 (by simp); have g1 := bs.2 1 (by simp); have g2 := bs.2 2 (by simp); have g3 := bs.2 3 (by simp); have g4 := bs.2 4 (by simp); skip))
              all_goals go_roundw
              case rel => exact ⟨j + 1, N', 4, t, d, k, r, by omega, by omega, by go_num, rfl, rfl, hN'0, hN'1, HP, boxL_off5 bt n5 (.int .i64 4) (.int .i64 t) (.int .i64 d) (.int .i64 k) (.string r), boxL_set5 bs (.int .i64 4) (.int .i64 t) (.int .i64 d) (.int .i64 k) (.string r), below_setT hB n6 (.int .i64 4) (.int .i64 t) (.int .i64 d) (.int .i64 k) (.string r)⟩
              case measure => simp [intOf]; omega
          by_cases i5 : i = 5
          · subst i5
            rw [hc.2.2 (by simp)] at cO
            clear hc
            have HP : Hid (rightT tr ⟨5, t, d, k, r⟩ = true) := HR
            have hpz : r.size ≤ maxLen := hrz
            have htq := ((restL_iff _ _ _ _ _ _).1 (right_parts HP.out).2).1
            replace cO : ∀ W, Calls Try.prog 14 #[.agg #[.slice ta tl tc, .int .i64 tr, .int .i64 wt, .int .i64 le], .agg #[.int .i64 5, .int .i64 t, .int .i64 d, .int .i64 k, .string r], .int .i64 N'] W fun e w' => e = .returned (.agg #[.int .i64 5, .int .i64 t, .int .i64 d, .int .i64 k, .string r]) ∧ Below W.heap.size W w' := cO
            have cQ := fun W => rightT_any ta tl tc tr wt le 5 t d k r W hpz
            have cR := fun W => refRightT_any ta tl tc tr wt le 5 t d k r W hpz
            rw [HP.out] at cQ cR
            have aa1 := (boxL_new wr [.int .i64 4, .int .i64 be] 48 rfl).1 1 _ rfl
            have ax0 := ((boxL_new wr [.int .i64 4, .int .i64 be] 48 rfl).alloc (.cells #[.int .i64 5, .int .i64 t, .int .i64 d, .int .i64 k, .string r] 26)).1 0 _ rfl
            have bsa := bs.alloc (.cells #[.int .i64 4, .int .i64 be] 48)
            have bsx := bsa.alloc (.cells #[.int .i64 5, .int .i64 t, .int .i64 d, .int .i64 k, .string r] 26)
            have btx := (bt.alloc (.cells #[.int .i64 4, .int .i64 be] 48)).alloc (.cells #[.int .i64 5, .int .i64 t, .int .i64 d, .int .i64 k, .string r] 26)
            have sa0 := bsa.1 0 _ rfl
            have sx0 := bsx.1 0 _ rfl
            have sa1 := bsa.1 1 _ rfl
            have sx1 := bsx.1 1 _ rfl
            have sa2 := bsa.1 2 _ rfl
            have sx2 := bsx.1 2 _ rfl
            have sa3 := bsa.1 3 _ rfl
            have sx3 := bsx.1 3 _ rfl
            have sa4 := bsa.1 4 _ rfl
            have sx4 := bsx.1 4 _ rfl
            have tx0 := btx.1 0 _ rfl
            have tx1 := btx.1 1 _ rfl
            have tx2 := btx.1 2 _ rfl
            have tx3 := btx.1 3 _ rfl
            clear bsa bsx btx
            clear hpz hrz
            as_aux_lemma =>
              go_wp2_with (first
                | (go_at_call 14; refine (cO _).mono ?_; rintro e v1 ⟨rfl, hb⟩; clear sa0 sa1 sa2 sa3 sa4 sx0 sx1 sx2 sx3 sx4 tx0 tx1 tx2 tx3 aa1 ax0; have bt1 := ((bt.alloc (.cells #[.int .i64 4, .int .i64 be] 48)).alloc (.cells #[.int .i64 5, .int .i64 t, .int .i64 d, .int .i64 k, .string r] 26)).below hb; have bs1 := ((bs.alloc (.cells #[.int .i64 4, .int .i64 be] 48)).alloc (.cells #[.int .i64 5, .int .i64 t, .int .i64 d, .int .i64 k, .string r] 26)).below hb; have bx1 := (boxL_new (wr.alloc (.cells #[.int .i64 4, .int .i64 be] 48)) [.int .i64 5, .int .i64 t, .int .i64 d, .int .i64 k, .string r] 26 (h := wr.heap.size + 1) (by simp)).below hb; have hB1 := Below.tr ((hB.alloc hsz (.cells #[.int .i64 4, .int .i64 be] 48)).alloc (by simp; omega) (.cells #[.int .i64 5, .int .i64 t, .int .i64 d, .int .i64 k, .string r] 26)) hb; clear hb bt bs hB; generalize wr.heap.size + 1 = hx at *; have o0 := bx1.1 0 _ rfl; have o1 := bx1.1 1 _ rfl; have o2 := bx1.1 2 _ rfl; have o3 := bx1.1 3 _ rfl; have o4 := bx1.1 4 _ rfl; have f0 := bx1.2 0 (by simp); have f1 := bx1.2 1 (by simp); have f2 := bx1.2 2 (by simp); have f3 := bx1.2 3 (by simp); have f4 := bx1.2 4 (by simp); have bx := boxL_set5 bx1 (.int .i64 5) (.int .i64 t) (.int .i64 d) (.int .i64 k) (.string r); have bt := boxL_off5 bt1 n2 (.int .i64 5) (.int .i64 t) (.int .i64 d) (.int .i64 k) (.string r); have bs := boxL_off5 bs1 n1 (.int .i64 5) (.int .i64 t) (.int .i64 d) (.int .i64 k) (.string r); have hB := below_setT hB1 n3 (.int .i64 5) (.int .i64 t) (.int .i64 d) (.int .i64 k) (.string r); clear bx1 bt1 bs1 hB1)
                | (obtain ⟨U, hU⟩ : ∃ U, U = (((((v1.setCell ⟨hx, 0, none⟩ (.int .i64 5)).setCell ⟨hx, 1, none⟩ (.int .i64 t)).setCell ⟨hx, 2, none⟩ (.int .i64 d)).setCell ⟨hx, 3, none⟩ (.int .i64 k)).setCell ⟨hx, 4, none⟩ (.string r)) := ⟨_, rfl⟩; rw [← hU]; rw [← hU] at bx bt bs hB; clear hU o0 o1 o2 o3 o4 f0 f1 f2 f3 f4; have s0 := bs.1 0 _ rfl; have s1 := bs.1 1 _ rfl; have s2 := bs.1 2 _ rfl; have s3 := bs.1 3 _ rfl; have s4 := bs.1 4 _ rfl; have y0 := bx.1 0 _ rfl; have y1 := bx.1 1 _ rfl; have y2 := bx.1 2 _ rfl; have y3 := bx.1 3 _ rfl; have y4 := bx.1 4 _ rfl; have f0 := bx.2 0 (by simp); have f1 := bx.2 1 (by simp); have f2 := bx.2 2 (by simp); have f3 := bx.2 3 (by simp); have f4 := bx.2 4 (by simp); have x0 := bt.1 0 _ rfl; have x1 := bt.1 1 _ rfl; have x2 := bt.1 2 _ rfl; have x3 := bt.1 3 _ rfl; skip)
                | (go_at_call 10; refine (cQ _).mono ?_; rintro e v2 ⟨rfl, hb⟩; replace bx := bx.below hb; replace bt := bt.below hb; replace bs := bs.below hb; replace hB := Below.tr hB hb; clear hb s0 s1 s2 s3 s4 y0 y1 y2 y3 y4 x0 x1 x2 x3; have s0 := bs.1 0 _ rfl; have s1 := bs.1 1 _ rfl; have s2 := bs.1 2 _ rfl; have s3 := bs.1 3 _ rfl; have s4 := bs.1 4 _ rfl; have y0 := bx.1 0 _ rfl; have y1 := bx.1 1 _ rfl; have y2 := bx.1 2 _ rfl; have y3 := bx.1 3 _ rfl; have y4 := bx.1 4 _ rfl; have x0 := bt.1 0 _ rfl; have x1 := bt.1 1 _ rfl; have x2 := bt.1 2 _ rfl; have x3 := bt.1 3 _ rfl; skip)
                | (go_at_call 11; refine (cR _).mono ?_; rintro e v3 ⟨rfl, hb⟩; replace bx := bx.below hb; replace bt := bt.below hb; replace bs := bs.below hb; replace hB := Below.tr hB hb; clear hb s0 s1 s2 s3 s4 y0 y1 y2 y3 y4 x0 x1 x2 x3; have s0 := bs.1 0 _ rfl; have s1 := bs.1 1 _ rfl; have s2 := bs.1 2 _ rfl; have s3 := bs.1 3 _ rfl; have s4 := bs.1 4 _ rfl; have y0 := bx.1 0 _ rfl; have y1 := bx.1 1 _ rfl; have y2 := bx.1 2 _ rfl; have y3 := bx.1 3 _ rfl; have y4 := bx.1 4 _ rfl; have x0 := bt.1 0 _ rfl; have x1 := bt.1 1 _ rfl; have x2 := bt.1 2 _ rfl; have x3 := bt.1 3 _ rfl; have g0 := bs.2 0 (by simp); have g1 := bs.2 1 (by simp); have g2 := bs.2 2 (by simp); have g3 := bs.2 3 (by simp); have g4 := bs.2 4 (by simp); skip))
              all_goals go_roundw
              case rel => exact ⟨j + 1, N', 5, t, d, k, r, by omega, by omega, by go_num, rfl, rfl, hN'0, hN'1, HP, boxL_off5 bt n5 (.int .i64 5) (.int .i64 t) (.int .i64 d) (.int .i64 k) (.string r), boxL_set5 bs (.int .i64 5) (.int .i64 t) (.int .i64 d) (.int .i64 k) (.string r), below_setT hB n6 (.int .i64 5) (.int .i64 t) (.int .i64 d) (.int .i64 k) (.string r)⟩
              case measure => simp [intOf]; omega
          have g3 : (i == 3) = false := by simpa using i3
          have g4 : (i == 4) = false := by simpa using i4
          have g5 : (i == 5) = false := by simpa using i5
          clear i3 i4 i5
          obtain ⟨hrl, hpt, -⟩ := hc
          generalize expireT tr wt ⟨i, t, d, k, r⟩ N' = q at *
          obtain ⟨pi, pt, pd, pk, pr⟩ := q
          obtain rfl : t = pt := hpt.symm
          clear hpt
          have HP : Hid (rightT tr ⟨pi, t, pd, pk, pr⟩ = true) := hrl
          have hpz : pr.size ≤ maxLen := by have := ((standL_iff _ _ _ _ _).1 (right_parts HP.out).1).2.2.2.2.2.1; unfold maxLen; omega
          have htq := ((restL_iff _ _ _ _ _ _).1 (right_parts HP.out).2).1
          replace cO : ∀ W, Calls Try.prog 14 #[.agg #[.slice ta tl tc, .int .i64 tr, .int .i64 wt, .int .i64 le], .agg #[.int .i64 i, .int .i64 t, .int .i64 d, .int .i64 k, .string r], .int .i64 N'] W fun e w' => e = .returned (.agg #[.int .i64 pi, .int .i64 t, .int .i64 pd, .int .i64 pk, .string pr]) ∧ Below W.heap.size W w' := cO
          have cQ := fun W => rightT_any ta tl tc tr wt le pi t pd pk pr W hpz
          have cR := fun W => refRightT_any ta tl tc tr wt le pi t pd pk pr W hpz
          rw [HP.out] at cQ cR
          have aa1 := (boxL_new wr [.int .i64 4, .int .i64 be] 48 rfl).1 1 _ rfl
          have ax0 := ((boxL_new wr [.int .i64 4, .int .i64 be] 48 rfl).alloc (.cells #[.int .i64 i, .int .i64 t, .int .i64 d, .int .i64 k, .string r] 26)).1 0 _ rfl
          have bsa := bs.alloc (.cells #[.int .i64 4, .int .i64 be] 48)
          have bsx := bsa.alloc (.cells #[.int .i64 i, .int .i64 t, .int .i64 d, .int .i64 k, .string r] 26)
          have btx := (bt.alloc (.cells #[.int .i64 4, .int .i64 be] 48)).alloc (.cells #[.int .i64 i, .int .i64 t, .int .i64 d, .int .i64 k, .string r] 26)
          have sa0 := bsa.1 0 _ rfl
          have sx0 := bsx.1 0 _ rfl
          have sa1 := bsa.1 1 _ rfl
          have sx1 := bsx.1 1 _ rfl
          have sa2 := bsa.1 2 _ rfl
          have sx2 := bsx.1 2 _ rfl
          have sa3 := bsa.1 3 _ rfl
          have sx3 := bsx.1 3 _ rfl
          have sa4 := bsa.1 4 _ rfl
          have sx4 := bsx.1 4 _ rfl
          have tx0 := btx.1 0 _ rfl
          have tx1 := btx.1 1 _ rfl
          have tx2 := btx.1 2 _ rfl
          have tx3 := btx.1 3 _ rfl
          clear bsa bsx btx
          clear hpz hrz hrl
          as_aux_lemma =>
            go_wp2_with (first
              | (go_at_call 14; refine (cO _).mono ?_; rintro e v1 ⟨rfl, hb⟩; clear sa0 sa1 sa2 sa3 sa4 sx0 sx1 sx2 sx3 sx4 tx0 tx1 tx2 tx3 aa1 ax0; have bt1 := ((bt.alloc (.cells #[.int .i64 4, .int .i64 be] 48)).alloc (.cells #[.int .i64 i, .int .i64 t, .int .i64 d, .int .i64 k, .string r] 26)).below hb; have bs1 := ((bs.alloc (.cells #[.int .i64 4, .int .i64 be] 48)).alloc (.cells #[.int .i64 i, .int .i64 t, .int .i64 d, .int .i64 k, .string r] 26)).below hb; have bx1 := (boxL_new (wr.alloc (.cells #[.int .i64 4, .int .i64 be] 48)) [.int .i64 i, .int .i64 t, .int .i64 d, .int .i64 k, .string r] 26 (h := wr.heap.size + 1) (by simp)).below hb; have hB1 := Below.tr ((hB.alloc hsz (.cells #[.int .i64 4, .int .i64 be] 48)).alloc (by simp; omega) (.cells #[.int .i64 i, .int .i64 t, .int .i64 d, .int .i64 k, .string r] 26)) hb; clear hb bt bs hB; generalize wr.heap.size + 1 = hx at *; have o0 := bx1.1 0 _ rfl; have o1 := bx1.1 1 _ rfl; have o2 := bx1.1 2 _ rfl; have o3 := bx1.1 3 _ rfl; have o4 := bx1.1 4 _ rfl; have f0 := bx1.2 0 (by simp); have f1 := bx1.2 1 (by simp); have f2 := bx1.2 2 (by simp); have f3 := bx1.2 3 (by simp); have f4 := bx1.2 4 (by simp); have bx := boxL_set5 bx1 (.int .i64 pi) (.int .i64 t) (.int .i64 pd) (.int .i64 pk) (.string pr); have bt := boxL_off5 bt1 n2 (.int .i64 pi) (.int .i64 t) (.int .i64 pd) (.int .i64 pk) (.string pr); have bs := boxL_off5 bs1 n1 (.int .i64 pi) (.int .i64 t) (.int .i64 pd) (.int .i64 pk) (.string pr); have hB := below_setT hB1 n3 (.int .i64 pi) (.int .i64 t) (.int .i64 pd) (.int .i64 pk) (.string pr); clear bx1 bt1 bs1 hB1)
              | (obtain ⟨U, hU⟩ : ∃ U, U = (((((v1.setCell ⟨hx, 0, none⟩ (.int .i64 pi)).setCell ⟨hx, 1, none⟩ (.int .i64 t)).setCell ⟨hx, 2, none⟩ (.int .i64 pd)).setCell ⟨hx, 3, none⟩ (.int .i64 pk)).setCell ⟨hx, 4, none⟩ (.string pr)) := ⟨_, rfl⟩; rw [← hU]; rw [← hU] at bx bt bs hB; clear hU o0 o1 o2 o3 o4 f0 f1 f2 f3 f4; have s0 := bs.1 0 _ rfl; have s1 := bs.1 1 _ rfl; have s2 := bs.1 2 _ rfl; have s3 := bs.1 3 _ rfl; have s4 := bs.1 4 _ rfl; have y0 := bx.1 0 _ rfl; have y1 := bx.1 1 _ rfl; have y2 := bx.1 2 _ rfl; have y3 := bx.1 3 _ rfl; have y4 := bx.1 4 _ rfl; have f0 := bx.2 0 (by simp); have f1 := bx.2 1 (by simp); have f2 := bx.2 2 (by simp); have f3 := bx.2 3 (by simp); have f4 := bx.2 4 (by simp); have x0 := bt.1 0 _ rfl; have x1 := bt.1 1 _ rfl; have x2 := bt.1 2 _ rfl; have x3 := bt.1 3 _ rfl; skip)
              | (go_at_call 10; refine (cQ _).mono ?_; rintro e v2 ⟨rfl, hb⟩; replace bx := bx.below hb; replace bt := bt.below hb; replace bs := bs.below hb; replace hB := Below.tr hB hb; clear hb s0 s1 s2 s3 s4 y0 y1 y2 y3 y4 x0 x1 x2 x3; have s0 := bs.1 0 _ rfl; have s1 := bs.1 1 _ rfl; have s2 := bs.1 2 _ rfl; have s3 := bs.1 3 _ rfl; have s4 := bs.1 4 _ rfl; have y0 := bx.1 0 _ rfl; have y1 := bx.1 1 _ rfl; have y2 := bx.1 2 _ rfl; have y3 := bx.1 3 _ rfl; have y4 := bx.1 4 _ rfl; have x0 := bt.1 0 _ rfl; have x1 := bt.1 1 _ rfl; have x2 := bt.1 2 _ rfl; have x3 := bt.1 3 _ rfl; skip)
              | (go_at_call 11; refine (cR _).mono ?_; rintro e v3 ⟨rfl, hb⟩; replace bx := bx.below hb; replace bt := bt.below hb; replace bs := bs.below hb; replace hB := Below.tr hB hb; clear hb s0 s1 s2 s3 s4 y0 y1 y2 y3 y4 x0 x1 x2 x3; have s0 := bs.1 0 _ rfl; have s1 := bs.1 1 _ rfl; have s2 := bs.1 2 _ rfl; have s3 := bs.1 3 _ rfl; have s4 := bs.1 4 _ rfl; have y0 := bx.1 0 _ rfl; have y1 := bx.1 1 _ rfl; have y2 := bx.1 2 _ rfl; have y3 := bx.1 3 _ rfl; have y4 := bx.1 4 _ rfl; have x0 := bt.1 0 _ rfl; have x1 := bt.1 1 _ rfl; have x2 := bt.1 2 _ rfl; have x3 := bt.1 3 _ rfl; have g0 := bs.2 0 (by simp); have g1 := bs.2 1 (by simp); have g2 := bs.2 2 (by simp); have g3 := bs.2 3 (by simp); have g4 := bs.2 4 (by simp); skip))
            all_goals go_roundw
            case rel => exact ⟨j + 1, N', pi, t, pd, pk, pr, by omega, by omega, by go_num, rfl, rfl, hN'0, hN'1, HP, boxL_off5 bt n5 (.int .i64 pi) (.int .i64 t) (.int .i64 pd) (.int .i64 pk) (.string pr), boxL_set5 bs (.int .i64 pi) (.int .i64 t) (.int .i64 pd) (.int .i64 pk) (.string pr), below_setT hB n6 (.int .i64 pi) (.int .i64 t) (.int .i64 pd) (.int .i64 pk) (.string pr)⟩
            case measure => simp [intOf]; omega
        have w0 : (wh == 0) = false := by simpa using q0
        have w1 : (wh == 1) = false := by simpa using q1
        have w2 : (wh == 2) = false := by simpa using q2
        have w3 : (wh == 3) = false := by simpa using q3
        have w4 : (wh == 4) = false := by simpa using q4
        clear q0 q1 q2 q3 q4
        have hc := right_cancel HR.out
        have cO := fun W => cancelT_any i t d k r W
        by_cases i3 : i = 3
        · subst i3
          rw [hc.2.2 (by simp)] at cO
          clear hc
          have HP : Hid (rightT tr ⟨3, t, d, k, r⟩ = true) := HR
          have hpz : r.size ≤ maxLen := hrz
          have htq := ((restL_iff _ _ _ _ _ _).1 (right_parts HP.out).2).1
          replace cO : ∀ W, Calls Try.prog 16 #[.agg #[.int .i64 3, .int .i64 t, .int .i64 d, .int .i64 k, .string r]] W fun e w' => e = .returned (.agg #[.int .i64 3, .int .i64 t, .int .i64 d, .int .i64 k, .string r]) ∧ Below W.heap.size W w' := cO
          have cQ := fun W => rightT_any ta tl tc tr wt le 3 t d k r W hpz
          have cR := fun W => refRightT_any ta tl tc tr wt le 3 t d k r W hpz
          rw [HP.out] at cQ cR
          have aa1 := (boxL_new wr [.int .i64 wh, .int .i64 be] 48 rfl).1 1 _ rfl
          have ax0 := ((boxL_new wr [.int .i64 wh, .int .i64 be] 48 rfl).alloc (.cells #[.int .i64 3, .int .i64 t, .int .i64 d, .int .i64 k, .string r] 26)).1 0 _ rfl
          have bsa := bs.alloc (.cells #[.int .i64 wh, .int .i64 be] 48)
          have bsx := bsa.alloc (.cells #[.int .i64 3, .int .i64 t, .int .i64 d, .int .i64 k, .string r] 26)
          have btx := (bt.alloc (.cells #[.int .i64 wh, .int .i64 be] 48)).alloc (.cells #[.int .i64 3, .int .i64 t, .int .i64 d, .int .i64 k, .string r] 26)
          have sa0 := bsa.1 0 _ rfl
          have sx0 := bsx.1 0 _ rfl
          have sa1 := bsa.1 1 _ rfl
          have sx1 := bsx.1 1 _ rfl
          have sa2 := bsa.1 2 _ rfl
          have sx2 := bsx.1 2 _ rfl
          have sa3 := bsa.1 3 _ rfl
          have sx3 := bsx.1 3 _ rfl
          have sa4 := bsa.1 4 _ rfl
          have sx4 := bsx.1 4 _ rfl
          have tx0 := btx.1 0 _ rfl
          have tx1 := btx.1 1 _ rfl
          have tx2 := btx.1 2 _ rfl
          have tx3 := btx.1 3 _ rfl
          clear bsa bsx btx
          clear hpz hrz
          as_aux_lemma =>
            go_wp2_with (first
              | (go_at_call 16; refine (cO _).mono ?_; rintro e v1 ⟨rfl, hb⟩; clear sa0 sa1 sa2 sa3 sa4 sx0 sx1 sx2 sx3 sx4 tx0 tx1 tx2 tx3 aa1 ax0; have bt1 := ((bt.alloc (.cells #[.int .i64 wh, .int .i64 be] 48)).alloc (.cells #[.int .i64 3, .int .i64 t, .int .i64 d, .int .i64 k, .string r] 26)).below hb; have bs1 := ((bs.alloc (.cells #[.int .i64 wh, .int .i64 be] 48)).alloc (.cells #[.int .i64 3, .int .i64 t, .int .i64 d, .int .i64 k, .string r] 26)).below hb; have bx1 := (boxL_new (wr.alloc (.cells #[.int .i64 wh, .int .i64 be] 48)) [.int .i64 3, .int .i64 t, .int .i64 d, .int .i64 k, .string r] 26 (h := wr.heap.size + 1) (by simp)).below hb; have hB1 := Below.tr ((hB.alloc hsz (.cells #[.int .i64 wh, .int .i64 be] 48)).alloc (by simp; omega) (.cells #[.int .i64 3, .int .i64 t, .int .i64 d, .int .i64 k, .string r] 26)) hb; clear hb bt bs hB; generalize wr.heap.size + 1 = hx at *; have o0 := bx1.1 0 _ rfl; have o1 := bx1.1 1 _ rfl; have o2 := bx1.1 2 _ rfl; have o3 := bx1.1 3 _ rfl; have o4 := bx1.1 4 _ rfl; have f0 := bx1.2 0 (by simp); have f1 := bx1.2 1 (by simp); have f2 := bx1.2 2 (by simp); have f3 := bx1.2 3 (by simp); have f4 := bx1.2 4 (by simp); have bx := boxL_set5 bx1 (.int .i64 3) (.int .i64 t) (.int .i64 d) (.int .i64 k) (.string r); have bt := boxL_off5 bt1 n2 (.int .i64 3) (.int .i64 t) (.int .i64 d) (.int .i64 k) (.string r); have bs := boxL_off5 bs1 n1 (.int .i64 3) (.int .i64 t) (.int .i64 d) (.int .i64 k) (.string r); have hB := below_setT hB1 n3 (.int .i64 3) (.int .i64 t) (.int .i64 d) (.int .i64 k) (.string r); clear bx1 bt1 bs1 hB1)
              | (obtain ⟨U, hU⟩ : ∃ U, U = (((((v1.setCell ⟨hx, 0, none⟩ (.int .i64 3)).setCell ⟨hx, 1, none⟩ (.int .i64 t)).setCell ⟨hx, 2, none⟩ (.int .i64 d)).setCell ⟨hx, 3, none⟩ (.int .i64 k)).setCell ⟨hx, 4, none⟩ (.string r)) := ⟨_, rfl⟩; rw [← hU]; rw [← hU] at bx bt bs hB; clear hU o0 o1 o2 o3 o4 f0 f1 f2 f3 f4; have s0 := bs.1 0 _ rfl; have s1 := bs.1 1 _ rfl; have s2 := bs.1 2 _ rfl; have s3 := bs.1 3 _ rfl; have s4 := bs.1 4 _ rfl; have y0 := bx.1 0 _ rfl; have y1 := bx.1 1 _ rfl; have y2 := bx.1 2 _ rfl; have y3 := bx.1 3 _ rfl; have y4 := bx.1 4 _ rfl; have f0 := bx.2 0 (by simp); have f1 := bx.2 1 (by simp); have f2 := bx.2 2 (by simp); have f3 := bx.2 3 (by simp); have f4 := bx.2 4 (by simp); have x0 := bt.1 0 _ rfl; have x1 := bt.1 1 _ rfl; have x2 := bt.1 2 _ rfl; have x3 := bt.1 3 _ rfl; skip)
              | (go_at_call 10; refine (cQ _).mono ?_; rintro e v2 ⟨rfl, hb⟩; replace bx := bx.below hb; replace bt := bt.below hb; replace bs := bs.below hb; replace hB := Below.tr hB hb; clear hb s0 s1 s2 s3 s4 y0 y1 y2 y3 y4 x0 x1 x2 x3; have s0 := bs.1 0 _ rfl; have s1 := bs.1 1 _ rfl; have s2 := bs.1 2 _ rfl; have s3 := bs.1 3 _ rfl; have s4 := bs.1 4 _ rfl; have y0 := bx.1 0 _ rfl; have y1 := bx.1 1 _ rfl; have y2 := bx.1 2 _ rfl; have y3 := bx.1 3 _ rfl; have y4 := bx.1 4 _ rfl; have x0 := bt.1 0 _ rfl; have x1 := bt.1 1 _ rfl; have x2 := bt.1 2 _ rfl; have x3 := bt.1 3 _ rfl; skip)
              | (go_at_call 11; refine (cR _).mono ?_; rintro e v3 ⟨rfl, hb⟩; replace bx := bx.below hb; replace bt := bt.below hb; replace bs := bs.below hb; replace hB := Below.tr hB hb; clear hb s0 s1 s2 s3 s4 y0 y1 y2 y3 y4 x0 x1 x2 x3; have s0 := bs.1 0 _ rfl; have s1 := bs.1 1 _ rfl; have s2 := bs.1 2 _ rfl; have s3 := bs.1 3 _ rfl; have s4 := bs.1 4 _ rfl; have y0 := bx.1 0 _ rfl; have y1 := bx.1 1 _ rfl; have y2 := bx.1 2 _ rfl; have y3 := bx.1 3 _ rfl; have y4 := bx.1 4 _ rfl; have x0 := bt.1 0 _ rfl; have x1 := bt.1 1 _ rfl; have x2 := bt.1 2 _ rfl; have x3 := bt.1 3 _ rfl; have g0 := bs.2 0 (by simp); have g1 := bs.2 1 (by simp); have g2 := bs.2 2 (by simp); have g3 := bs.2 3 (by simp); have g4 := bs.2 4 (by simp); skip))
            all_goals go_roundw
            case rel => exact ⟨j + 1, N', 3, t, d, k, r, by omega, by omega, by go_num, rfl, rfl, hN'0, hN'1, HP, boxL_off5 bt n5 (.int .i64 3) (.int .i64 t) (.int .i64 d) (.int .i64 k) (.string r), boxL_set5 bs (.int .i64 3) (.int .i64 t) (.int .i64 d) (.int .i64 k) (.string r), below_setT hB n6 (.int .i64 3) (.int .i64 t) (.int .i64 d) (.int .i64 k) (.string r)⟩
            case measure => simp [intOf]; omega
        by_cases i4 : i = 4
        · subst i4
          rw [hc.2.2 (by simp)] at cO
          clear hc
          have HP : Hid (rightT tr ⟨4, t, d, k, r⟩ = true) := HR
          have hpz : r.size ≤ maxLen := hrz
          have htq := ((restL_iff _ _ _ _ _ _).1 (right_parts HP.out).2).1
          replace cO : ∀ W, Calls Try.prog 16 #[.agg #[.int .i64 4, .int .i64 t, .int .i64 d, .int .i64 k, .string r]] W fun e w' => e = .returned (.agg #[.int .i64 4, .int .i64 t, .int .i64 d, .int .i64 k, .string r]) ∧ Below W.heap.size W w' := cO
          have cQ := fun W => rightT_any ta tl tc tr wt le 4 t d k r W hpz
          have cR := fun W => refRightT_any ta tl tc tr wt le 4 t d k r W hpz
          rw [HP.out] at cQ cR
          have aa1 := (boxL_new wr [.int .i64 wh, .int .i64 be] 48 rfl).1 1 _ rfl
          have ax0 := ((boxL_new wr [.int .i64 wh, .int .i64 be] 48 rfl).alloc (.cells #[.int .i64 4, .int .i64 t, .int .i64 d, .int .i64 k, .string r] 26)).1 0 _ rfl
          have bsa := bs.alloc (.cells #[.int .i64 wh, .int .i64 be] 48)
          have bsx := bsa.alloc (.cells #[.int .i64 4, .int .i64 t, .int .i64 d, .int .i64 k, .string r] 26)
          have btx := (bt.alloc (.cells #[.int .i64 wh, .int .i64 be] 48)).alloc (.cells #[.int .i64 4, .int .i64 t, .int .i64 d, .int .i64 k, .string r] 26)
          have sa0 := bsa.1 0 _ rfl
          have sx0 := bsx.1 0 _ rfl
          have sa1 := bsa.1 1 _ rfl
          have sx1 := bsx.1 1 _ rfl
          have sa2 := bsa.1 2 _ rfl
          have sx2 := bsx.1 2 _ rfl
          have sa3 := bsa.1 3 _ rfl
          have sx3 := bsx.1 3 _ rfl
          have sa4 := bsa.1 4 _ rfl
          have sx4 := bsx.1 4 _ rfl
          have tx0 := btx.1 0 _ rfl
          have tx1 := btx.1 1 _ rfl
          have tx2 := btx.1 2 _ rfl
          have tx3 := btx.1 3 _ rfl
          clear bsa bsx btx
          clear hpz hrz
          as_aux_lemma =>
            go_wp2_with (first
              | (go_at_call 16; refine (cO _).mono ?_; rintro e v1 ⟨rfl, hb⟩; clear sa0 sa1 sa2 sa3 sa4 sx0 sx1 sx2 sx3 sx4 tx0 tx1 tx2 tx3 aa1 ax0; have bt1 := ((bt.alloc (.cells #[.int .i64 wh, .int .i64 be] 48)).alloc (.cells #[.int .i64 4, .int .i64 t, .int .i64 d, .int .i64 k, .string r] 26)).below hb; have bs1 := ((bs.alloc (.cells #[.int .i64 wh, .int .i64 be] 48)).alloc (.cells #[.int .i64 4, .int .i64 t, .int .i64 d, .int .i64 k, .string r] 26)).below hb; have bx1 := (boxL_new (wr.alloc (.cells #[.int .i64 wh, .int .i64 be] 48)) [.int .i64 4, .int .i64 t, .int .i64 d, .int .i64 k, .string r] 26 (h := wr.heap.size + 1) (by simp)).below hb; have hB1 := Below.tr ((hB.alloc hsz (.cells #[.int .i64 wh, .int .i64 be] 48)).alloc (by simp; omega) (.cells #[.int .i64 4, .int .i64 t, .int .i64 d, .int .i64 k, .string r] 26)) hb; clear hb bt bs hB; generalize wr.heap.size + 1 = hx at *; have o0 := bx1.1 0 _ rfl; have o1 := bx1.1 1 _ rfl; have o2 := bx1.1 2 _ rfl; have o3 := bx1.1 3 _ rfl; have o4 := bx1.1 4 _ rfl; have f0 := bx1.2 0 (by simp); have f1 := bx1.2 1 (by simp); have f2 := bx1.2 2 (by simp); have f3 := bx1.2 3 (by simp); have f4 := bx1.2 4 (by simp); have bx := boxL_set5 bx1 (.int .i64 4) (.int .i64 t) (.int .i64 d) (.int .i64 k) (.string r); have bt := boxL_off5 bt1 n2 (.int .i64 4) (.int .i64 t) (.int .i64 d) (.int .i64 k) (.string r); have bs := boxL_off5 bs1 n1 (.int .i64 4) (.int .i64 t) (.int .i64 d) (.int .i64 k) (.string r); have hB := below_setT hB1 n3 (.int .i64 4) (.int .i64 t) (.int .i64 d) (.int .i64 k) (.string r); clear bx1 bt1 bs1 hB1)
              | (obtain ⟨U, hU⟩ : ∃ U, U = (((((v1.setCell ⟨hx, 0, none⟩ (.int .i64 4)).setCell ⟨hx, 1, none⟩ (.int .i64 t)).setCell ⟨hx, 2, none⟩ (.int .i64 d)).setCell ⟨hx, 3, none⟩ (.int .i64 k)).setCell ⟨hx, 4, none⟩ (.string r)) := ⟨_, rfl⟩; rw [← hU]; rw [← hU] at bx bt bs hB; clear hU o0 o1 o2 o3 o4 f0 f1 f2 f3 f4; have s0 := bs.1 0 _ rfl; have s1 := bs.1 1 _ rfl; have s2 := bs.1 2 _ rfl; have s3 := bs.1 3 _ rfl; have s4 := bs.1 4 _ rfl; have y0 := bx.1 0 _ rfl; have y1 := bx.1 1 _ rfl; have y2 := bx.1 2 _ rfl; have y3 := bx.1 3 _ rfl; have y4 := bx.1 4 _ rfl; have f0 := bx.2 0 (by simp); have f1 := bx.2 1 (by simp); have f2 := bx.2 2 (by simp); have f3 := bx.2 3 (by simp); have f4 := bx.2 4 (by simp); have x0 := bt.1 0 _ rfl; have x1 := bt.1 1 _ rfl; have x2 := bt.1 2 _ rfl; have x3 := bt.1 3 _ rfl; skip)
              | (go_at_call 10; refine (cQ _).mono ?_; rintro e v2 ⟨rfl, hb⟩; replace bx := bx.below hb; replace bt := bt.below hb; replace bs := bs.below hb; replace hB := Below.tr hB hb; clear hb s0 s1 s2 s3 s4 y0 y1 y2 y3 y4 x0 x1 x2 x3; have s0 := bs.1 0 _ rfl; have s1 := bs.1 1 _ rfl; have s2 := bs.1 2 _ rfl; have s3 := bs.1 3 _ rfl; have s4 := bs.1 4 _ rfl; have y0 := bx.1 0 _ rfl; have y1 := bx.1 1 _ rfl; have y2 := bx.1 2 _ rfl; have y3 := bx.1 3 _ rfl; have y4 := bx.1 4 _ rfl; have x0 := bt.1 0 _ rfl; have x1 := bt.1 1 _ rfl; have x2 := bt.1 2 _ rfl; have x3 := bt.1 3 _ rfl; skip)
              | (go_at_call 11; refine (cR _).mono ?_; rintro e v3 ⟨rfl, hb⟩; replace bx := bx.below hb; replace bt := bt.below hb; replace bs := bs.below hb; replace hB := Below.tr hB hb; clear hb s0 s1 s2 s3 s4 y0 y1 y2 y3 y4 x0 x1 x2 x3; have s0 := bs.1 0 _ rfl; have s1 := bs.1 1 _ rfl; have s2 := bs.1 2 _ rfl; have s3 := bs.1 3 _ rfl; have s4 := bs.1 4 _ rfl; have y0 := bx.1 0 _ rfl; have y1 := bx.1 1 _ rfl; have y2 := bx.1 2 _ rfl; have y3 := bx.1 3 _ rfl; have y4 := bx.1 4 _ rfl; have x0 := bt.1 0 _ rfl; have x1 := bt.1 1 _ rfl; have x2 := bt.1 2 _ rfl; have x3 := bt.1 3 _ rfl; have g0 := bs.2 0 (by simp); have g1 := bs.2 1 (by simp); have g2 := bs.2 2 (by simp); have g3 := bs.2 3 (by simp); have g4 := bs.2 4 (by simp); skip))
            all_goals go_roundw
            case rel => exact ⟨j + 1, N', 4, t, d, k, r, by omega, by omega, by go_num, rfl, rfl, hN'0, hN'1, HP, boxL_off5 bt n5 (.int .i64 4) (.int .i64 t) (.int .i64 d) (.int .i64 k) (.string r), boxL_set5 bs (.int .i64 4) (.int .i64 t) (.int .i64 d) (.int .i64 k) (.string r), below_setT hB n6 (.int .i64 4) (.int .i64 t) (.int .i64 d) (.int .i64 k) (.string r)⟩
            case measure => simp [intOf]; omega
        by_cases i5 : i = 5
        · subst i5
          rw [hc.2.2 (by simp)] at cO
          clear hc
          have HP : Hid (rightT tr ⟨5, t, d, k, r⟩ = true) := HR
          have hpz : r.size ≤ maxLen := hrz
          have htq := ((restL_iff _ _ _ _ _ _).1 (right_parts HP.out).2).1
          replace cO : ∀ W, Calls Try.prog 16 #[.agg #[.int .i64 5, .int .i64 t, .int .i64 d, .int .i64 k, .string r]] W fun e w' => e = .returned (.agg #[.int .i64 5, .int .i64 t, .int .i64 d, .int .i64 k, .string r]) ∧ Below W.heap.size W w' := cO
          have cQ := fun W => rightT_any ta tl tc tr wt le 5 t d k r W hpz
          have cR := fun W => refRightT_any ta tl tc tr wt le 5 t d k r W hpz
          rw [HP.out] at cQ cR
          have aa1 := (boxL_new wr [.int .i64 wh, .int .i64 be] 48 rfl).1 1 _ rfl
          have ax0 := ((boxL_new wr [.int .i64 wh, .int .i64 be] 48 rfl).alloc (.cells #[.int .i64 5, .int .i64 t, .int .i64 d, .int .i64 k, .string r] 26)).1 0 _ rfl
          have bsa := bs.alloc (.cells #[.int .i64 wh, .int .i64 be] 48)
          have bsx := bsa.alloc (.cells #[.int .i64 5, .int .i64 t, .int .i64 d, .int .i64 k, .string r] 26)
          have btx := (bt.alloc (.cells #[.int .i64 wh, .int .i64 be] 48)).alloc (.cells #[.int .i64 5, .int .i64 t, .int .i64 d, .int .i64 k, .string r] 26)
          have sa0 := bsa.1 0 _ rfl
          have sx0 := bsx.1 0 _ rfl
          have sa1 := bsa.1 1 _ rfl
          have sx1 := bsx.1 1 _ rfl
          have sa2 := bsa.1 2 _ rfl
          have sx2 := bsx.1 2 _ rfl
          have sa3 := bsa.1 3 _ rfl
          have sx3 := bsx.1 3 _ rfl
          have sa4 := bsa.1 4 _ rfl
          have sx4 := bsx.1 4 _ rfl
          have tx0 := btx.1 0 _ rfl
          have tx1 := btx.1 1 _ rfl
          have tx2 := btx.1 2 _ rfl
          have tx3 := btx.1 3 _ rfl
          clear bsa bsx btx
          clear hpz hrz
          as_aux_lemma =>
            go_wp2_with (first
              | (go_at_call 16; refine (cO _).mono ?_; rintro e v1 ⟨rfl, hb⟩; clear sa0 sa1 sa2 sa3 sa4 sx0 sx1 sx2 sx3 sx4 tx0 tx1 tx2 tx3 aa1 ax0; have bt1 := ((bt.alloc (.cells #[.int .i64 wh, .int .i64 be] 48)).alloc (.cells #[.int .i64 5, .int .i64 t, .int .i64 d, .int .i64 k, .string r] 26)).below hb; have bs1 := ((bs.alloc (.cells #[.int .i64 wh, .int .i64 be] 48)).alloc (.cells #[.int .i64 5, .int .i64 t, .int .i64 d, .int .i64 k, .string r] 26)).below hb; have bx1 := (boxL_new (wr.alloc (.cells #[.int .i64 wh, .int .i64 be] 48)) [.int .i64 5, .int .i64 t, .int .i64 d, .int .i64 k, .string r] 26 (h := wr.heap.size + 1) (by simp)).below hb; have hB1 := Below.tr ((hB.alloc hsz (.cells #[.int .i64 wh, .int .i64 be] 48)).alloc (by simp; omega) (.cells #[.int .i64 5, .int .i64 t, .int .i64 d, .int .i64 k, .string r] 26)) hb; clear hb bt bs hB; generalize wr.heap.size + 1 = hx at *; have o0 := bx1.1 0 _ rfl; have o1 := bx1.1 1 _ rfl; have o2 := bx1.1 2 _ rfl; have o3 := bx1.1 3 _ rfl; have o4 := bx1.1 4 _ rfl; have f0 := bx1.2 0 (by simp); have f1 := bx1.2 1 (by simp); have f2 := bx1.2 2 (by simp); have f3 := bx1.2 3 (by simp); have f4 := bx1.2 4 (by simp); have bx := boxL_set5 bx1 (.int .i64 5) (.int .i64 t) (.int .i64 d) (.int .i64 k) (.string r); have bt := boxL_off5 bt1 n2 (.int .i64 5) (.int .i64 t) (.int .i64 d) (.int .i64 k) (.string r); have bs := boxL_off5 bs1 n1 (.int .i64 5) (.int .i64 t) (.int .i64 d) (.int .i64 k) (.string r); have hB := below_setT hB1 n3 (.int .i64 5) (.int .i64 t) (.int .i64 d) (.int .i64 k) (.string r); clear bx1 bt1 bs1 hB1)
              | (obtain ⟨U, hU⟩ : ∃ U, U = (((((v1.setCell ⟨hx, 0, none⟩ (.int .i64 5)).setCell ⟨hx, 1, none⟩ (.int .i64 t)).setCell ⟨hx, 2, none⟩ (.int .i64 d)).setCell ⟨hx, 3, none⟩ (.int .i64 k)).setCell ⟨hx, 4, none⟩ (.string r)) := ⟨_, rfl⟩; rw [← hU]; rw [← hU] at bx bt bs hB; clear hU o0 o1 o2 o3 o4 f0 f1 f2 f3 f4; have s0 := bs.1 0 _ rfl; have s1 := bs.1 1 _ rfl; have s2 := bs.1 2 _ rfl; have s3 := bs.1 3 _ rfl; have s4 := bs.1 4 _ rfl; have y0 := bx.1 0 _ rfl; have y1 := bx.1 1 _ rfl; have y2 := bx.1 2 _ rfl; have y3 := bx.1 3 _ rfl; have y4 := bx.1 4 _ rfl; have f0 := bx.2 0 (by simp); have f1 := bx.2 1 (by simp); have f2 := bx.2 2 (by simp); have f3 := bx.2 3 (by simp); have f4 := bx.2 4 (by simp); have x0 := bt.1 0 _ rfl; have x1 := bt.1 1 _ rfl; have x2 := bt.1 2 _ rfl; have x3 := bt.1 3 _ rfl; skip)
              | (go_at_call 10; refine (cQ _).mono ?_; rintro e v2 ⟨rfl, hb⟩; replace bx := bx.below hb; replace bt := bt.below hb; replace bs := bs.below hb; replace hB := Below.tr hB hb; clear hb s0 s1 s2 s3 s4 y0 y1 y2 y3 y4 x0 x1 x2 x3; have s0 := bs.1 0 _ rfl; have s1 := bs.1 1 _ rfl; have s2 := bs.1 2 _ rfl; have s3 := bs.1 3 _ rfl; have s4 := bs.1 4 _ rfl; have y0 := bx.1 0 _ rfl; have y1 := bx.1 1 _ rfl; have y2 := bx.1 2 _ rfl; have y3 := bx.1 3 _ rfl; have y4 := bx.1 4 _ rfl; have x0 := bt.1 0 _ rfl; have x1 := bt.1 1 _ rfl; have x2 := bt.1 2 _ rfl; have x3 := bt.1 3 _ rfl; skip)
              | (go_at_call 11; refine (cR _).mono ?_; rintro e v3 ⟨rfl, hb⟩; replace bx := bx.below hb; replace bt := bt.below hb; replace bs := bs.below hb; replace hB := Below.tr hB hb; clear hb s0 s1 s2 s3 s4 y0 y1 y2 y3 y4 x0 x1 x2 x3; have s0 := bs.1 0 _ rfl; have s1 := bs.1 1 _ rfl; have s2 := bs.1 2 _ rfl; have s3 := bs.1 3 _ rfl; have s4 := bs.1 4 _ rfl; have y0 := bx.1 0 _ rfl; have y1 := bx.1 1 _ rfl; have y2 := bx.1 2 _ rfl; have y3 := bx.1 3 _ rfl; have y4 := bx.1 4 _ rfl; have x0 := bt.1 0 _ rfl; have x1 := bt.1 1 _ rfl; have x2 := bt.1 2 _ rfl; have x3 := bt.1 3 _ rfl; have g0 := bs.2 0 (by simp); have g1 := bs.2 1 (by simp); have g2 := bs.2 2 (by simp); have g3 := bs.2 3 (by simp); have g4 := bs.2 4 (by simp); skip))
            all_goals go_roundw
            case rel => exact ⟨j + 1, N', 5, t, d, k, r, by omega, by omega, by go_num, rfl, rfl, hN'0, hN'1, HP, boxL_off5 bt n5 (.int .i64 5) (.int .i64 t) (.int .i64 d) (.int .i64 k) (.string r), boxL_set5 bs (.int .i64 5) (.int .i64 t) (.int .i64 d) (.int .i64 k) (.string r), below_setT hB n6 (.int .i64 5) (.int .i64 t) (.int .i64 d) (.int .i64 k) (.string r)⟩
            case measure => simp [intOf]; omega
        have g3 : (i == 3) = false := by simpa using i3
        have g4 : (i == 4) = false := by simpa using i4
        have g5 : (i == 5) = false := by simpa using i5
        clear i3 i4 i5
        obtain ⟨hrl, hpt, -⟩ := hc
        generalize cancelT ⟨i, t, d, k, r⟩ = q at *
        obtain ⟨pi, pt, pd, pk, pr⟩ := q
        obtain rfl : t = pt := hpt.symm
        clear hpt
        have HP : Hid (rightT tr ⟨pi, t, pd, pk, pr⟩ = true) := hrl
        have hpz : pr.size ≤ maxLen := by have := ((standL_iff _ _ _ _ _).1 (right_parts HP.out).1).2.2.2.2.2.1; unfold maxLen; omega
        have htq := ((restL_iff _ _ _ _ _ _).1 (right_parts HP.out).2).1
        replace cO : ∀ W, Calls Try.prog 16 #[.agg #[.int .i64 i, .int .i64 t, .int .i64 d, .int .i64 k, .string r]] W fun e w' => e = .returned (.agg #[.int .i64 pi, .int .i64 t, .int .i64 pd, .int .i64 pk, .string pr]) ∧ Below W.heap.size W w' := cO
        have cQ := fun W => rightT_any ta tl tc tr wt le pi t pd pk pr W hpz
        have cR := fun W => refRightT_any ta tl tc tr wt le pi t pd pk pr W hpz
        rw [HP.out] at cQ cR
        have aa1 := (boxL_new wr [.int .i64 wh, .int .i64 be] 48 rfl).1 1 _ rfl
        have ax0 := ((boxL_new wr [.int .i64 wh, .int .i64 be] 48 rfl).alloc (.cells #[.int .i64 i, .int .i64 t, .int .i64 d, .int .i64 k, .string r] 26)).1 0 _ rfl
        have bsa := bs.alloc (.cells #[.int .i64 wh, .int .i64 be] 48)
        have bsx := bsa.alloc (.cells #[.int .i64 i, .int .i64 t, .int .i64 d, .int .i64 k, .string r] 26)
        have btx := (bt.alloc (.cells #[.int .i64 wh, .int .i64 be] 48)).alloc (.cells #[.int .i64 i, .int .i64 t, .int .i64 d, .int .i64 k, .string r] 26)
        have sa0 := bsa.1 0 _ rfl
        have sx0 := bsx.1 0 _ rfl
        have sa1 := bsa.1 1 _ rfl
        have sx1 := bsx.1 1 _ rfl
        have sa2 := bsa.1 2 _ rfl
        have sx2 := bsx.1 2 _ rfl
        have sa3 := bsa.1 3 _ rfl
        have sx3 := bsx.1 3 _ rfl
        have sa4 := bsa.1 4 _ rfl
        have sx4 := bsx.1 4 _ rfl
        have tx0 := btx.1 0 _ rfl
        have tx1 := btx.1 1 _ rfl
        have tx2 := btx.1 2 _ rfl
        have tx3 := btx.1 3 _ rfl
        clear bsa bsx btx
        clear hpz hrz hrl
        as_aux_lemma =>
          go_wp2_with (first
            | (go_at_call 16; refine (cO _).mono ?_; rintro e v1 ⟨rfl, hb⟩; clear sa0 sa1 sa2 sa3 sa4 sx0 sx1 sx2 sx3 sx4 tx0 tx1 tx2 tx3 aa1 ax0; have bt1 := ((bt.alloc (.cells #[.int .i64 wh, .int .i64 be] 48)).alloc (.cells #[.int .i64 i, .int .i64 t, .int .i64 d, .int .i64 k, .string r] 26)).below hb; have bs1 := ((bs.alloc (.cells #[.int .i64 wh, .int .i64 be] 48)).alloc (.cells #[.int .i64 i, .int .i64 t, .int .i64 d, .int .i64 k, .string r] 26)).below hb; have bx1 := (boxL_new (wr.alloc (.cells #[.int .i64 wh, .int .i64 be] 48)) [.int .i64 i, .int .i64 t, .int .i64 d, .int .i64 k, .string r] 26 (h := wr.heap.size + 1) (by simp)).below hb; have hB1 := Below.tr ((hB.alloc hsz (.cells #[.int .i64 wh, .int .i64 be] 48)).alloc (by simp; omega) (.cells #[.int .i64 i, .int .i64 t, .int .i64 d, .int .i64 k, .string r] 26)) hb; clear hb bt bs hB; generalize wr.heap.size + 1 = hx at *; have o0 := bx1.1 0 _ rfl; have o1 := bx1.1 1 _ rfl; have o2 := bx1.1 2 _ rfl; have o3 := bx1.1 3 _ rfl; have o4 := bx1.1 4 _ rfl; have f0 := bx1.2 0 (by simp); have f1 := bx1.2 1 (by simp); have f2 := bx1.2 2 (by simp); have f3 := bx1.2 3 (by simp); have f4 := bx1.2 4 (by simp); have bx := boxL_set5 bx1 (.int .i64 pi) (.int .i64 t) (.int .i64 pd) (.int .i64 pk) (.string pr); have bt := boxL_off5 bt1 n2 (.int .i64 pi) (.int .i64 t) (.int .i64 pd) (.int .i64 pk) (.string pr); have bs := boxL_off5 bs1 n1 (.int .i64 pi) (.int .i64 t) (.int .i64 pd) (.int .i64 pk) (.string pr); have hB := below_setT hB1 n3 (.int .i64 pi) (.int .i64 t) (.int .i64 pd) (.int .i64 pk) (.string pr); clear bx1 bt1 bs1 hB1)
            | (obtain ⟨U, hU⟩ : ∃ U, U = (((((v1.setCell ⟨hx, 0, none⟩ (.int .i64 pi)).setCell ⟨hx, 1, none⟩ (.int .i64 t)).setCell ⟨hx, 2, none⟩ (.int .i64 pd)).setCell ⟨hx, 3, none⟩ (.int .i64 pk)).setCell ⟨hx, 4, none⟩ (.string pr)) := ⟨_, rfl⟩; rw [← hU]; rw [← hU] at bx bt bs hB; clear hU o0 o1 o2 o3 o4 f0 f1 f2 f3 f4; have s0 := bs.1 0 _ rfl; have s1 := bs.1 1 _ rfl; have s2 := bs.1 2 _ rfl; have s3 := bs.1 3 _ rfl; have s4 := bs.1 4 _ rfl; have y0 := bx.1 0 _ rfl; have y1 := bx.1 1 _ rfl; have y2 := bx.1 2 _ rfl; have y3 := bx.1 3 _ rfl; have y4 := bx.1 4 _ rfl; have f0 := bx.2 0 (by simp); have f1 := bx.2 1 (by simp); have f2 := bx.2 2 (by simp); have f3 := bx.2 3 (by simp); have f4 := bx.2 4 (by simp); have x0 := bt.1 0 _ rfl; have x1 := bt.1 1 _ rfl; have x2 := bt.1 2 _ rfl; have x3 := bt.1 3 _ rfl; skip)
            | (go_at_call 10; refine (cQ _).mono ?_; rintro e v2 ⟨rfl, hb⟩; replace bx := bx.below hb; replace bt := bt.below hb; replace bs := bs.below hb; replace hB := Below.tr hB hb; clear hb s0 s1 s2 s3 s4 y0 y1 y2 y3 y4 x0 x1 x2 x3; have s0 := bs.1 0 _ rfl; have s1 := bs.1 1 _ rfl; have s2 := bs.1 2 _ rfl; have s3 := bs.1 3 _ rfl; have s4 := bs.1 4 _ rfl; have y0 := bx.1 0 _ rfl; have y1 := bx.1 1 _ rfl; have y2 := bx.1 2 _ rfl; have y3 := bx.1 3 _ rfl; have y4 := bx.1 4 _ rfl; have x0 := bt.1 0 _ rfl; have x1 := bt.1 1 _ rfl; have x2 := bt.1 2 _ rfl; have x3 := bt.1 3 _ rfl; skip)
            | (go_at_call 11; refine (cR _).mono ?_; rintro e v3 ⟨rfl, hb⟩; replace bx := bx.below hb; replace bt := bt.below hb; replace bs := bs.below hb; replace hB := Below.tr hB hb; clear hb s0 s1 s2 s3 s4 y0 y1 y2 y3 y4 x0 x1 x2 x3; have s0 := bs.1 0 _ rfl; have s1 := bs.1 1 _ rfl; have s2 := bs.1 2 _ rfl; have s3 := bs.1 3 _ rfl; have s4 := bs.1 4 _ rfl; have y0 := bx.1 0 _ rfl; have y1 := bx.1 1 _ rfl; have y2 := bx.1 2 _ rfl; have y3 := bx.1 3 _ rfl; have y4 := bx.1 4 _ rfl; have x0 := bt.1 0 _ rfl; have x1 := bt.1 1 _ rfl; have x2 := bt.1 2 _ rfl; have x3 := bt.1 3 _ rfl; have g0 := bs.2 0 (by simp); have g1 := bs.2 1 (by simp); have g2 := bs.2 2 (by simp); have g3 := bs.2 3 (by simp); have g4 := bs.2 4 (by simp); skip))
          all_goals go_roundw
          case rel => exact ⟨j + 1, N', pi, t, pd, pk, pr, by omega, by omega, by go_num, rfl, rfl, hN'0, hN'1, HP, boxL_off5 bt n5 (.int .i64 pi) (.int .i64 t) (.int .i64 pd) (.int .i64 pk) (.string pr), boxL_set5 bs (.int .i64 pi) (.int .i64 t) (.int .i64 pd) (.int .i64 pk) (.string pr), below_setT hB n6 (.int .i64 pi) (.int .i64 t) (.int .i64 pd) (.int .i64 pk) (.string pr)⟩
          case measure => simp [intOf]; omega
    · obtain rfl : n = j := by omega
      have hx : ¬ (n : Int) < n := by omega
      clear bt bs HR
      go_wp2_with (go_at_call 9; refine (alive18_any _).mono ?_; rintro e v3 ⟨rfl, hb⟩)
      go_ret
      exact ⟨rfl, Below.tr hB hb⟩

end Go.Proofs.Ytnipikdlfmcheaa
