/-
  The document's reader of a dag: the next number, the next text; its number.
-/
import Derived.Test.YtnipikdlfmcheaaGnPlain
import Derived.Test.YtnipikdlfmcheaaBoxTurns
import Derived.Test.YtnipikdlfmcheaaRefGet
import Derived.Test.YtnipikdlfmcheaaRefText
import Derived.Test.YtnipikdlfmcheaaRefPut
import Derived.Test.YtnipikdlfmcheaaAnychain
namespace Go.Proofs.Ytnipikdlfmcheaa
open Go.RowKit Plain Anylast
set_option linter.unusedVariables false

def refNextV (h : Nat) (s : ByteArray) (p k x q y : Int) : Nat → Value
  | 0 => .pointer (some ⟨h, 0, none⟩)
  | 1 => .pointer (some ⟨h, 0, none⟩)
  | 2 => .pointer (some ⟨h, 0, none⟩)
  | 3 => .string s
  | 4 => .pointer (some ⟨h, 0, none⟩)
  | 5 => .pointer (some ⟨h, 0, none⟩)
  | 6 => .pointer (some ⟨h, 1, none⟩)
  | 7 => .int .i64 p
  | 8 => .int .i64 k
  | 9 => .tuple #[.int .i64 x, .int .i64 q, .int .i64 y]
  | 10 => .tuple #[.int .i64 x, .int .i64 q, .int .i64 y]
  | 11 => .int .i64 x
  | 12 => .int .i64 q
  | 13 => .int .i64 y
  | 14 => .int .i64 x
  | 15 => .int .i64 q
  | 16 => .int .i64 y
  | _ => undef

def refTextV (h : Nat) (s : ByteArray) (p : Int) (x : ByteArray) (q y : Int) : Nat → Value
  | 0 => .pointer (some ⟨h, 0, none⟩)
  | 1 => .pointer (some ⟨h, 0, none⟩)
  | 2 => .pointer (some ⟨h, 0, none⟩)
  | 3 => .string s
  | 4 => .pointer (some ⟨h, 0, none⟩)
  | 5 => .pointer (some ⟨h, 0, none⟩)
  | 6 => .pointer (some ⟨h, 1, none⟩)
  | 7 => .int .i64 p
  | 8 => .tuple #[.string x, .int .i64 q, .int .i64 y]
  | 9 => .tuple #[.string x, .int .i64 q, .int .i64 y]
  | 10 => .string x
  | 11 => .int .i64 q
  | 12 => .int .i64 y
  | 13 => .string x
  | 14 => .int .i64 q
  | 15 => .int .i64 y
  | _ => undef

def worldsC (w : World) : Nat → World
  | _ => w

set_option maxRecDepth 20000 in
set_option maxHeartbeats 1000000 in
/-- The document's NEXT; the world behind it is known ahead. -/
theorem refNext_any (h : Nat) (s : ByteArray) (p e k : Int) (V : World) (b : BoxL V h [.string s, .int .i64 p, .int .i64 e]) (hz : s.size ≤ maxLen) :
    ∃ w1, BoxL w1 h [.string s, .int .i64 (gnP s p e k), .int .i64 (gnE s p e k)] ∧ Turns (fun i => i = h) V w1 ∧ w1.heap.size = V.heap.size ∧
      Calls Try.prog 43 #[.pointer (some ⟨h, 0, none⟩), .int .i64 k] V fun x w' => x = .returned (.int .i64 (gnR s p e k)) ∧ w' = w1 := by
  by_cases h0 : e = 0
  · subst h0
    have e1 : gnR s p 0 k = getR s p k := if_pos rfl
    have e2 : gnP s p 0 k = getT s p k := if_pos rfl
    have e3 : gnE s p 0 k = getE s p k := if_pos rfl
    rw [e1, e2, e3]
    have hcall9 : Calls Try.prog 55 #[.string s, .int .i64 p, .int .i64 k] V.drew fun e w' => e = .returned (.tuple #[.int .i64 (getR s p k), .int .i64 (getT s p k), .int .i64 (getE s p k)]) ∧ w' = V.drew := (refGet_any s p k V.drew hz).mono fun _ _ hh => ⟨hh.1, hh.2.symm⟩
    generalize getR s p k = x at *
    generalize getT s p k = q at *
    generalize getE s p k = y at *
    clear e1 e2 e3
    obtain ⟨V0, hV0⟩ : ∃ X, X = V.drew := ⟨_, rfl⟩
    have HV0 : Hid (V0 = V.drew) := hV0
    have b0 : BoxL V0 h [.string s, .int .i64 p, .int .i64 0] := by rw [hV0]; exact boxL_turns b ((Turns.refl (fun _ => False) V).drew) id
    have T0 : Turns (fun i => i = h) V V0 := by rw [hV0]; exact (Turns.refl _ _).drew
    have z0 : V0.heap.size = V.heap.size := by rw [hV0]; rfl
    rw [← hV0] at hcall9
    have b1 := (b0.set 1 (.int .i64 q)).set 2 (.int .i64 y)
    refine ⟨_, b1, (T0.setCell (p := ⟨h, 1, none⟩) rfl _).setCell (p := ⟨h, 2, none⟩) rfl _, by simpa using z0, ?_⟩
    have x2 := b.1 2 _ rfl
    have q0 := b0.1 0 _ rfl
    have q1 := b0.1 1 _ rfl
    have q2 := b0.1 2 _ rfl
    have f1 := b0.2 1 (by simp)
    have f2 := b0.2 2 (by simp)
    have b2 := b0.set 1 (.int .i64 q)
    have r2 := b2.1 2 _ rfl
    have g2 := b2.2 2 (by simp)
    clear b b0 b1 b2 T0 z0 hV0
    go_enter Try.func43, Try.ntmps43
    go_wp2
    refine region_worlds (by kernel_rfl) [9] (refNextV h s p k x q y) (worldsC V0) (by kernel_rfl) (by kernel_rfl) HV0.out.symm ?step 17 rfl ?done
    case step =>
      intro i o ho kk a2 hkk hmay hdf hsz hdep hsame
      match i, ho with
      | 0, ho =>
        cases ho
        have h0 := (hsame 0 rfl)
        exact val_op rfl (wanted_free rfl) (by clear hdep hsame hsz hdf; (try simp only [refNextV, worldsC]); go_simp) rfl rfl
      | 1, ho =>
        cases ho
        have h14 := (hdep 0 _ 14 rfl rfl rfl)
        simp only [refNextV] at h14
        exact val_op rfl (wanted_free rfl) (by clear hdep hsame hsz hdf; (try simp only [refNextV, worldsC]); go_simp) rfl rfl
      | 2, ho =>
        cases ho
        have h15 := (hdep 1 _ 15 rfl rfl rfl)
        simp only [refNextV] at h15
        exact val_op rfl (wanted_free rfl) (by clear hdep hsame hsz hdf; (try simp only [refNextV, worldsC]); go_simp) rfl rfl
      | 3, ho =>
        cases ho
        have h16 := (hdep 2 _ 16 rfl rfl rfl)
        simp only [refNextV] at h16
        match kk, hkk, hmay with
        | 0, _, hq => first | (cases hq; done) | (exact val_op rfl (wanted_free rfl) (by clear hdep hsame hsz hdf; (try simp only [refNextV, worldsC]); go_simp) rfl rfl)
        | 1, _, hq => first | (cases hq; done) | (exact val_op rfl (wanted_free rfl) (by clear hdep hsame hsz hdf; (try simp only [refNextV, worldsC]); go_simp) rfl rfl)
        | kk + 2, hkk, _ => simp at hkk
      | 4, ho =>
        cases ho
        have h0 := (hsame 0 rfl)
        exact val_op rfl (wanted_free rfl) (by clear hdep hsame hsz hdf; (try simp only [refNextV, worldsC]); go_simp) rfl rfl
      | 5, ho =>
        cases ho
        have h18 := (hdep 4 _ 18 rfl rfl rfl)
        simp only [refNextV] at h18
        exact val_op rfl (wanted_free rfl) (by clear hdep hsame hsz hdf; (try simp only [refNextV, worldsC]); go_simp) rfl rfl
      | 6, ho =>
        cases ho
        have h19 := (hdep 5 _ 19 rfl rfl rfl)
        simp only [refNextV] at h19
        exact val_op rfl (wanted_free rfl) (by clear hdep hsame hsz hdf; (try simp only [refNextV, worldsC]); go_simp) rfl rfl
      | 7, ho =>
        cases ho
        have h20 := (hdep 6 _ 20 rfl rfl rfl)
        simp only [refNextV] at h20
        match kk, hkk, hmay with
        | 0, _, hq => first | (cases hq; done) | (exact val_op rfl (wanted_free rfl) (by clear hdep hsame hsz hdf; (try simp only [refNextV, worldsC]); go_simp) rfl rfl)
        | 1, _, hq => first | (cases hq; done) | (exact val_op rfl (wanted_free rfl) (by clear hdep hsame hsz hdf; (try simp only [refNextV, worldsC]); go_simp) rfl rfl)
        | kk + 2, hkk, _ => simp at hkk
      | 8, ho =>
        cases ho
        have h1 := (hsame 1 rfl)
        exact val_op rfl (wanted_free rfl) (by clear hdep hsame hsz hdf; (try simp only [refNextV, worldsC]); go_simp) rfl rfl
      | 9, ho =>
        cases ho
        have h17 := (hdep 3 _ 17 rfl rfl rfl)
        have h21 := (hdep 7 _ 21 rfl rfl rfl)
        have h22 := (hdep 8 _ 22 rfl rfl rfl)
        simp only [refNextV] at h17 h21 h22
        match kk, hkk, hmay with
        | 0, _, _ => exact val_call rfl (wanted_free rfl) (by clear hdep hsame hsz hdf; (try simp only [worldsC]); go_simp) (hcall9.mono fun e w hh => ⟨hh.1, hh.2⟩)
        | 1, _, hq => cases hq
        | kk + 2, hkk, _ => simp at hkk
      | 10, ho =>
        cases ho
        have h23 := (hdep 9 _ 23 rfl rfl rfl)
        simp only [refNextV] at h23
        exact val_op rfl (wanted_free rfl) (by clear hdep hsame hsz hdf; (try simp only [refNextV, worldsC]); go_simp) rfl rfl
      | 11, ho =>
        cases ho
        have h13 := (hdep 10 _ 13 rfl rfl rfl)
        simp only [refNextV] at h13
        exact val_op rfl (wanted_free rfl) (by clear hdep hsame hsz hdf; (try simp only [refNextV, worldsC]); go_simp) rfl rfl
      | 12, ho =>
        cases ho
        have h13 := (hdep 10 _ 13 rfl rfl rfl)
        simp only [refNextV] at h13
        exact val_op rfl (wanted_free rfl) (by clear hdep hsame hsz hdf; (try simp only [refNextV, worldsC]); go_simp) rfl rfl
      | 13, ho =>
        cases ho
        have h13 := (hdep 10 _ 13 rfl rfl rfl)
        simp only [refNextV] at h13
        exact val_op rfl (wanted_free rfl) (by clear hdep hsame hsz hdf; (try simp only [refNextV, worldsC]); go_simp) rfl rfl
      | 14, ho =>
        cases ho
        have h24 := (hdep 11 _ 24 rfl rfl rfl)
        simp only [refNextV] at h24
        exact val_op rfl (wanted_free rfl) (by clear hdep hsame hsz hdf; (try simp only [refNextV, worldsC]); go_simp) rfl rfl
      | 15, ho =>
        cases ho
        have h25 := (hdep 12 _ 25 rfl rfl rfl)
        simp only [refNextV] at h25
        exact val_op rfl (wanted_free rfl) (by clear hdep hsame hsz hdf; (try simp only [refNextV, worldsC]); go_simp) rfl rfl
      | 16, ho =>
        cases ho
        have h26 := (hdep 13 _ 26 rfl rfl rfl)
        simp only [refNextV] at h26
        exact val_op rfl (wanted_free rfl) (by clear hdep hsame hsz hdf; (try simp only [refNextV, worldsC]); go_simp) rfl rfl
      | kk + 17, ho => simp at ho
    case done =>
      simp [filledN, refNextV, worldsC]
      clear hcall9 HV0 x2
      go_wp2
      go_ret
      exact ⟨rfl, rfl⟩
  · have e1 : gnR s p e k = 0 := if_neg h0
    have e2 : gnP s p e k = p := if_neg h0
    have e3 : gnE s p e k = e := if_neg h0
    rw [e1, e2, e3]
    have he' : (e != 0) = true := by simpa using h0
    refine ⟨V, b, Turns.refl _ _, rfl, ?_⟩
    have x2 := b.1 2 _ rfl
    clear e1 e2 e3 b
    go_enter Try.func43, Try.ntmps43
    go_wp2
    go_ret
    exact ⟨rfl, rfl⟩

set_option maxRecDepth 20000 in
set_option maxHeartbeats 1000000 in
/-- The document's first text. -/
theorem refTextR_any (h : Nat) (s : ByteArray) (p : Int) (V : World) (b : BoxL V h [.string s, .int .i64 p, .int .i64 0]) (hz : s.size ≤ maxLen) :
    ∃ w1, BoxL w1 h [.string s, .int .i64 (cutT s p), .int .i64 (cutE s p)] ∧ Turns (fun i => i = h) V w1 ∧ w1.heap.size = V.heap.size ∧
      Calls Try.prog 44 #[.pointer (some ⟨h, 0, none⟩)] V fun x w' => x = .returned (.string (cutS s p)) ∧ w' = w1 := by
  have hcall8 : Calls Try.prog 56 #[.string s, .int .i64 p] V.drew fun e w' => e = .returned (.tuple #[.string (cutS s p), .int .i64 (cutT s p), .int .i64 (cutE s p)]) ∧ w' = V.drew := (refCut_any s p V.drew hz).mono fun _ _ hh => ⟨hh.1, hh.2.symm⟩
  generalize cutS s p = x at *
  generalize cutT s p = q at *
  generalize cutE s p = y at *
  obtain ⟨V0, hV0⟩ : ∃ X, X = V.drew := ⟨_, rfl⟩
  have HV0 : Hid (V0 = V.drew) := hV0
  have b0 : BoxL V0 h [.string s, .int .i64 p, .int .i64 0] := by rw [hV0]; exact boxL_turns b ((Turns.refl (fun _ => False) V).drew) id
  have T0 : Turns (fun i => i = h) V V0 := by rw [hV0]; exact (Turns.refl _ _).drew
  have z0 : V0.heap.size = V.heap.size := by rw [hV0]; rfl
  rw [← hV0] at hcall8
  have b1 := (b0.set 1 (.int .i64 q)).set 2 (.int .i64 y)
  refine ⟨_, b1, (T0.setCell (p := ⟨h, 1, none⟩) rfl _).setCell (p := ⟨h, 2, none⟩) rfl _, by simpa using z0, ?_⟩
  have x2 := b.1 2 _ rfl
  have q0 := b0.1 0 _ rfl
  have q1 := b0.1 1 _ rfl
  have q2 := b0.1 2 _ rfl
  have f1 := b0.2 1 (by simp)
  have f2 := b0.2 2 (by simp)
  have b2 := b0.set 1 (.int .i64 q)
  have r2 := b2.1 2 _ rfl
  have g2 := b2.2 2 (by simp)
  clear b b0 b1 b2 T0 z0 hV0
  go_enter Try.func44, Try.ntmps44
  go_wp2
  refine region_worlds (by kernel_rfl) [8] (refTextV h s p x q y) (worldsC V0) (by kernel_rfl) (by kernel_rfl) HV0.out.symm ?step 16 rfl ?done
  case step =>
    intro i o ho kk a2 hkk hmay hdf hsz hdep hsame
    match i, ho with
    | 0, ho =>
      cases ho
      have h0 := (hsame 0 rfl)
      exact val_op rfl (wanted_free rfl) (by clear hdep hsame hsz hdf; (try simp only [refTextV, worldsC]); go_simp) rfl rfl
    | 1, ho =>
      cases ho
      have h12 := (hdep 0 _ 12 rfl rfl rfl)
      simp only [refTextV] at h12
      exact val_op rfl (wanted_free rfl) (by clear hdep hsame hsz hdf; (try simp only [refTextV, worldsC]); go_simp) rfl rfl
    | 2, ho =>
      cases ho
      have h13 := (hdep 1 _ 13 rfl rfl rfl)
      simp only [refTextV] at h13
      exact val_op rfl (wanted_free rfl) (by clear hdep hsame hsz hdf; (try simp only [refTextV, worldsC]); go_simp) rfl rfl
    | 3, ho =>
      cases ho
      have h14 := (hdep 2 _ 14 rfl rfl rfl)
      simp only [refTextV] at h14
      match kk, hkk, hmay with
      | 0, _, hq => first | (cases hq; done) | (exact val_op rfl (wanted_free rfl) (by clear hdep hsame hsz hdf; (try simp only [refTextV, worldsC]); go_simp) rfl rfl)
      | 1, _, hq => first | (cases hq; done) | (exact val_op rfl (wanted_free rfl) (by clear hdep hsame hsz hdf; (try simp only [refTextV, worldsC]); go_simp) rfl rfl)
      | kk + 2, hkk, _ => simp at hkk
    | 4, ho =>
      cases ho
      have h0 := (hsame 0 rfl)
      exact val_op rfl (wanted_free rfl) (by clear hdep hsame hsz hdf; (try simp only [refTextV, worldsC]); go_simp) rfl rfl
    | 5, ho =>
      cases ho
      have h16 := (hdep 4 _ 16 rfl rfl rfl)
      simp only [refTextV] at h16
      exact val_op rfl (wanted_free rfl) (by clear hdep hsame hsz hdf; (try simp only [refTextV, worldsC]); go_simp) rfl rfl
    | 6, ho =>
      cases ho
      have h17 := (hdep 5 _ 17 rfl rfl rfl)
      simp only [refTextV] at h17
      exact val_op rfl (wanted_free rfl) (by clear hdep hsame hsz hdf; (try simp only [refTextV, worldsC]); go_simp) rfl rfl
    | 7, ho =>
      cases ho
      have h18 := (hdep 6 _ 18 rfl rfl rfl)
      simp only [refTextV] at h18
      match kk, hkk, hmay with
      | 0, _, hq => first | (cases hq; done) | (exact val_op rfl (wanted_free rfl) (by clear hdep hsame hsz hdf; (try simp only [refTextV, worldsC]); go_simp) rfl rfl)
      | 1, _, hq => first | (cases hq; done) | (exact val_op rfl (wanted_free rfl) (by clear hdep hsame hsz hdf; (try simp only [refTextV, worldsC]); go_simp) rfl rfl)
      | kk + 2, hkk, _ => simp at hkk
    | 8, ho =>
      cases ho
      have h15 := (hdep 3 _ 15 rfl rfl rfl)
      have h19 := (hdep 7 _ 19 rfl rfl rfl)
      simp only [refTextV] at h15 h19
      match kk, hkk, hmay with
      | 0, _, _ => exact val_call rfl (wanted_free rfl) (by clear hdep hsame hsz hdf; (try simp only [worldsC]); go_simp) (hcall8.mono fun e w hh => ⟨hh.1, hh.2⟩)
      | 1, _, hq => cases hq
      | kk + 2, hkk, _ => simp at hkk
    | 9, ho =>
      cases ho
      have h20 := (hdep 8 _ 20 rfl rfl rfl)
      simp only [refTextV] at h20
      exact val_op rfl (wanted_free rfl) (by clear hdep hsame hsz hdf; (try simp only [refTextV, worldsC]); go_simp) rfl rfl
    | 10, ho =>
      cases ho
      have h11 := (hdep 9 _ 11 rfl rfl rfl)
      simp only [refTextV] at h11
      exact val_op rfl (wanted_free rfl) (by clear hdep hsame hsz hdf; (try simp only [refTextV, worldsC]); go_simp) rfl rfl
    | 11, ho =>
      cases ho
      have h11 := (hdep 9 _ 11 rfl rfl rfl)
      simp only [refTextV] at h11
      exact val_op rfl (wanted_free rfl) (by clear hdep hsame hsz hdf; (try simp only [refTextV, worldsC]); go_simp) rfl rfl
    | 12, ho =>
      cases ho
      have h11 := (hdep 9 _ 11 rfl rfl rfl)
      simp only [refTextV] at h11
      exact val_op rfl (wanted_free rfl) (by clear hdep hsame hsz hdf; (try simp only [refTextV, worldsC]); go_simp) rfl rfl
    | 13, ho =>
      cases ho
      have h21 := (hdep 10 _ 21 rfl rfl rfl)
      simp only [refTextV] at h21
      exact val_op rfl (wanted_free rfl) (by clear hdep hsame hsz hdf; (try simp only [refTextV, worldsC]); go_simp) rfl rfl
    | 14, ho =>
      cases ho
      have h22 := (hdep 11 _ 22 rfl rfl rfl)
      simp only [refTextV] at h22
      exact val_op rfl (wanted_free rfl) (by clear hdep hsame hsz hdf; (try simp only [refTextV, worldsC]); go_simp) rfl rfl
    | 15, ho =>
      cases ho
      have h23 := (hdep 12 _ 23 rfl rfl rfl)
      simp only [refTextV] at h23
      exact val_op rfl (wanted_free rfl) (by clear hdep hsame hsz hdf; (try simp only [refTextV, worldsC]); go_simp) rfl rfl
    | kk + 16, ho => simp at ho
  case done =>
    simp [filledN, refTextV, worldsC]
    clear hcall8 HV0 x2
    go_wp2
    go_ret
    exact ⟨rfl, rfl⟩

end Go.Proofs.Ytnipikdlfmcheaa
