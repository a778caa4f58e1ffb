/-
  Package ring's read.
-/
import Derived.Test.YtcdcnonkoffbhaaRingRead
import Derived.Test.YtcdcnonkoffbhaaRingMay
namespace Go.Proofs.Ytcdcnonkoffbhaa
open Go.RowKit Plain
set_option linter.unusedVariables false

theorem rdAt_new (w : World) (s : ByteArray) (t1 t2 t3 : TypeId) : RdAt (((w.alloc (.cells #[.string s] t1)).alloc (.cells #[.int .i64 0] t2)).alloc (.cells #[.int .i64 0] t3)) w.heap.size s 0 0 := by
  have h1 : (w.alloc (.cells #[.string s] t1)).heap.size = w.heap.size + 1 := by simp
  have h2 : ((w.alloc (.cells #[.string s] t1)).alloc (.cells #[.int .i64 0] t2)).heap.size = w.heap.size + 1 + 1 := by simp
  refine ⟨cell_alloc (cell_alloc (World.cell?_alloc_at _ _ _ _ rfl) _) _, cell_alloc ?_ _, ?_, ?_, ?_⟩
  · rw [← h1]; exact World.cell?_alloc_at _ _ _ _ rfl
  · rw [← h2]; exact World.cell?_alloc_at _ _ _ _ rfl
  · have c : ((w.alloc (.cells #[.string s] t1)).alloc (.cells #[.int .i64 0] t2)).cell? ⟨w.heap.size + 1, 0, none⟩ = some (.int .i64 0) := by rw [← h1]; exact World.cell?_alloc_at _ _ _ _ rfl
    have f : ((w.alloc (.cells #[.string s] t1)).alloc (.cells #[.int .i64 0] t2)).frozen? ⟨w.heap.size + 1, 0, none⟩ = false := by rw [← h1]; exact (World.frozen?_alloc_mark _ _ _ _ _ 0).trans (by simp)
    rw [((Below.refl _ _).alloc (Nat.le_refl _) _).frozen (cell_lt c)]
    exact f
  · rw [← h2]; exact (World.frozen?_alloc_mark _ _ _ _ _ 0).trans (by simp)

theorem chSt_next (s : ByteArray) (j : Nat) : chSt s (j + 1) = chStep s (chSt s j) := rfl

set_option maxRecDepth 20000 in
set_option maxHeartbeats 4000000 in
theorem ringRead_any (s : ByteArray) (w : World) (hs : s.size ≤ maxLen) :
    Calls Try.prog 37 #[.string s] w fun x w' => ∃ a c, x = .returned (.tuple #[.slice a (chM s) c, .int .i64 (chF s).p, .int .i64 (chF s).e]) ∧ IsC w' a c (chF s).cs ∧ Below w.heap.size w w' := by
  have rd0 := rdAt_new w s 9 3 22
  have bel0 : Below w.heap.size w (((w.alloc (.cells #[.string s] 9)).alloc (.cells #[.int .i64 0] 3)).alloc (.cells #[.int .i64 0] 22)) := (((Below.refl _ _).alloc (Nat.le_refl _) _).alloc (by simp) _).alloc (by simp; omega) _
  have hsz0 : (((w.alloc (.cells #[.string s] 9)).alloc (.cells #[.int .i64 0] 3)).alloc (.cells #[.int .i64 0] 22)).heap.size = w.heap.size + 3 := by simp
  have c0 := nextNumber_any w.heap.size s 0 0 _ rd0 hs
  obtain ⟨M, hM⟩ : ∃ M, M = chM s := ⟨_, rfl⟩
  have hM2 : nmR s 0 0 = (M : Int) := by rw [hM]; exact (chM_le s).2
  have hM3 : M ≤ 255 := by rw [hM]; exact (chM_le s).1
  have HM : Hid (M = chM s) := hM
  have HS : Hid (s.size ≤ maxLen) := hs
  rw [hM2] at c0
  have hF : Hid (chF s = chSt s M) := by show _ = _; rw [hM]; rfl
  rw [← hM]
  clear hM hM2 hs rd0
  have fin : Hid (∀ (u : Value) (wr : World), wr.ownsRow (w.heap.size + 3) 68 3 u M (cellsC (chSt s M).cs) → ∃ a c, u = .slice a M c ∧ IsC wr a c (chF s).cs) := by
    show ∀ (u : Value) (wr : World), _
    intro u wr h
    rw [hF.out]
    obtain ⟨a, c, h1, h2, _⟩ := owned_isC h (chSt_len s M).symm (fun c hc => by
      have := chSt_size s M c hc
      have := HS.out
      exact ⟨by omega, by omega⟩)
    exact ⟨a, c, h1, h2⟩
  go_enter Try.func37, Try.ntmps37
  go_wp2_with (go_at_call 59; refine c0.mono ?_; rintro x w1 ⟨rfl, r1, t1, z1⟩; have bel1 := Below.turns bel0 t1 (fun i h => by rcases h with h | h <;> omega); replace z1 : w.heap.size + 3 ≤ w1.heap.size := (by rw [z1, hsz0]; exact Nat.le_refl _); clear c0 t1 bel0 hsz0)
  go_loopw [9, 15] (fun b v wr => ∃ j : Nat, j ≤ M ∧ v = .int .i64 j ∧ wr.ownsRow (w.heap.size + 3) 68 3 b j (cellsC (chSt s j).cs) ∧ RdAt wr w.heap.size s (chSt s j).p (chSt s j).e ∧ w.heap.size + 3 ≤ wr.heap.size ∧ Below w.heap.size w wr) (fun _ v _ => M - (intOf v).toNat)
  case atStart => exact ⟨0, by omega, rfl, World.ownsRow_nil _ _ _ _, r1, z1, bel1⟩
  case round =>
    clear r1 bel1 z1
    obtain ⟨j, hj, rfl, own, rd, hz, hB⟩ := hrel
    obtain ⟨A, hA⟩ : ∃ A, A = chSt s j := ⟨_, rfl⟩
    rw [← hA] at own rd
    have HA : Hid (A = chSt s j) := hA
    clear hA
    by_cases hlt : j < M
    · have hjn : (j : Int) < M := by omega
      have MD : RdMid w (wr.alloc (.cells #[.string ⟨#[]⟩, .string ⟨#[]⟩, .bool false] 68)) wr.heap.size s A.p A.e (.string ⟨#[]⟩) (.string ⟨#[]⟩) (.bool false) u9 j A.cs :=
        ⟨rd.turns (P := fun _ => False) ((Turns.refl _ _).alloc _) (fun h => h) (fun h => h) (fun h => h), box3_new _ _ _ _ _, own.alloc _, hz, (fun h => by have := (own.lt _ h).2; omega), hB.alloc hB.size _⟩
      have cN : ∀ V, RdAt V w.heap.size s A.p A.e → _ := fun V r => nextNumber_any w.heap.size s A.p A.e V r HS.out
      have cK : ∀ V, RdAt V w.heap.size s (nmP s A.p A.e) (nmE s A.p A.e) → _ := fun V r => nextText_any w.heap.size s _ _ V r HS.out
      have cV : ∀ V, RdAt V w.heap.size s (txP s (nmP s A.p A.e) (nmE s A.p A.e)) (txE s (nmP s A.p A.e) (nmE s A.p A.e)) → _ := fun V r => nextText_any w.heap.size s _ _ V r HS.out
      have hst : Hid (chSt s (j + 1) = chStep s A) := by show _ = _; rw [HA.out]; rfl
      unfold chStep at hst
      clear own rd hz hB HA
      generalize nmR s A.p A.e = N at *
      generalize nmP s A.p A.e = p1 at *
      generalize nmE s A.p A.e = e1 at *
      generalize txS s p1 e1 = k1 at *
      generalize txP s p1 e1 = p2 at *
      generalize txE s p1 e1 = e2 at *
      generalize txS s p2 e2 = v2 at *
      generalize txP s p2 e2 = p3 at *
      generalize txE s p2 e2 = e3 at *
      by_cases h0 : N = 0
      · rw [if_pos h0] at hst
        subst h0
        have tok1 : True := trivial
        go_wp2_with (first
  | (go_at_call 59; refine (cN _ MD.rd).mono ?_; rintro x w2 ⟨rfl, r2, t2, -⟩; replace MD := MD.turn t2 r2; obtain ⟨⟨q0, q1, q2⟩, f0, f1, f2⟩ := id MD.box; clear r2 t2)
          | (go_at_call 60; have _t := tok1; refine (cK _ MD.rd).mono ?_; rintro x w3 ⟨rfl, r3, t3, -⟩; replace MD := MD.turn t3 r3; clear q0 q1 q2 f0 f1 f2; obtain ⟨⟨q0, q1, q2⟩, f0, f1, f2⟩ := id MD.box; have MD' := MD.put0 (.string k1); clear r3 t3 tok1 _t MD)
          | (go_at_call 60; refine (cV _ MD'.rd).mono ?_; rintro x w4 ⟨rfl, r4, t4, -⟩; have MD4 := MD'.turn t4 r4; clear q0 q1 q2 f0 f1 f2; obtain ⟨⟨q0, q1, q2⟩, f0, f1, f2⟩ := id MD4.box; have MD5 := MD4.put1 (.string v2); obtain ⟨⟨m0, m1, m2⟩, -⟩ := id MD5.box; obtain ⟨g, cap, w5, hrun, own5, rd5, bel5⟩ := RdMid.push (x := (k1, v2, false)) MD5 (by omega) w4.heap.size (by simp); have z5 : w.heap.size + 3 ≤ w5.heap.size := (by have := (own5.lt g rfl); omega); clear r4 t4 MD' MD4 MD5)
  | (at_builtin; refine Lib.wpList_append_run _ rfl _ _ _ _ rfl _ _ rfl rfl _ _ hrun ?_)
          )
        go_roundw
        case rel => exact ⟨j + 1, by omega, by go_num, by rw [hst.out]; exact own5, by rw [hst.out]; exact rd5, z5, bel5⟩
        case measure => simp [intOf]; omega
      · rw [if_neg h0] at hst
        have h0' : (N == 0) = false := by simpa using h0
        by_cases h1 : N = 1
        · rw [if_pos h1] at hst
          subst h1
          go_wp2_with (first
  | (go_at_call 59; refine (cN _ MD.rd).mono ?_; rintro x w2 ⟨rfl, r2, t2, -⟩; replace MD := MD.turn t2 r2; obtain ⟨⟨q0, q1, q2⟩, f0, f1, f2⟩ := id MD.box; clear r2 t2)
            | (go_at_call 60; refine (cK _ (MD.put2 (.bool true)).rd).mono ?_; rintro x w4 ⟨rfl, r4, t4, -⟩; have MD4 := (MD.put2 (.bool true)).turn t4 r4; clear q0 q1 q2 f0 f1 f2; obtain ⟨⟨q0, q1, q2⟩, f0, f1, f2⟩ := id MD4.box; have MD5 := MD4.put0 (.string k1); obtain ⟨⟨m0, m1, m2⟩, -⟩ := id MD5.box; obtain ⟨g, cap, w5, hrun, own5, rd5, bel5⟩ := RdMid.push (x := (k1, ⟨#[]⟩, true)) MD5 (by omega) w4.heap.size (by simp); have z5 : w.heap.size + 3 ≤ w5.heap.size := (by have := (own5.lt g rfl); omega); clear r4 t4 MD MD4 MD5)
  | (at_builtin; refine Lib.wpList_append_run _ rfl _ _ _ _ rfl _ _ rfl rfl _ _ hrun ?_)
            )
          go_roundw
          case rel => exact ⟨j + 1, by omega, by go_num, by rw [hst.out]; exact own5, by rw [hst.out]; exact rd5, z5, bel5⟩
          case measure => simp [intOf]; omega
        · rw [if_neg h1] at hst
          have h1' : (N == 1) = false := by simpa using h1
          go_wp2_with (first
  | (go_at_call 59; refine (cN _ MD.rd).mono ?_; rintro x w2 ⟨rfl, r2, t2, -⟩; replace MD := MD.turn t2 r2; obtain ⟨-, -, re, -, fe⟩ := id MD.rd; have MD5 := MD.err 4; obtain ⟨⟨m0, m1, m2⟩, -⟩ := id MD5.box; obtain ⟨g, cap, w5, hrun, own5, rd5, bel5⟩ := RdMid.push (x := (⟨#[]⟩, ⟨#[]⟩, false)) MD5 (by omega) w2.heap.size (by simp); have z5 : w.heap.size + 3 ≤ w5.heap.size := (by have := (own5.lt g rfl); omega); clear r2 t2 MD MD5)
  | (at_builtin; refine Lib.wpList_append_run _ rfl _ _ _ _ rfl _ _ rfl rfl _ _ hrun ?_)
            )
          go_roundw
          case rel => exact ⟨j + 1, by omega, by go_num, by rw [hst.out]; exact own5, by rw [hst.out]; exact rd5, z5, bel5⟩
          case measure => simp [intOf]; omega
    · obtain rfl : j = M := by omega
      rw [HA.out] at own rd
      obtain ⟨a, c, rfl, hI⟩ := fin.out _ _ own
      obtain ⟨-, rp, re, -, -⟩ := id rd
      have hI' : Hid (IsC wr.drew a c (chF s).cs) := hI.turns (P := fun _ => False) (Turns.refl _ _).drew (fun _ _ h => h)
      have hF2 : Hid (chF s = chSt s j) := hF
      clear own rd hI fin
      obtain ⟨p, hp⟩ : ∃ p, p = (chSt s j).p := ⟨_, rfl⟩
      obtain ⟨e, he⟩ : ∃ e, e = (chSt s j).e := ⟨_, rfl⟩
      rw [← hp] at rp
      rw [← he] at re
      have hfin : Hid (Ending.returned (.tuple #[.slice a j c, .int .i64 p, .int .i64 e]) = Ending.returned (.tuple #[.slice a j c, .int .i64 (chF s).p, .int .i64 (chF s).e])) := by
        show _ = _
        rw [hF2.out, hp, he]
      clear hp he hF2 HA hF HM
      go_wp2
      go_region
      go_wp2
      go_ret3
      exact ⟨a, c, hfin.out, hI'.out, hB.drew⟩

end Go.Proofs.Ytcdcnonkoffbhaa
