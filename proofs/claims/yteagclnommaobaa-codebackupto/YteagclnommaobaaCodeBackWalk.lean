/-
  The walk of the law CodeBack: it returns true where its texts have together at most 1048576 letters.
-/
import Derived.Test.YteagclnommaobaaText
import Derived.Test.YteagclnommaobaaGet
import Derived.Test.YteagclnommaobaaPlainC
namespace Go.Proofs.Yteagclnommaobaa
open Go.RowKit Plain
set_option linter.unusedVariables false

set_option maxHeartbeats 1000000 in
theorem codeBack_walk (n k : Int) (s a c : ByteArray) (w : World) (_ : (Lit.int .i64 n).wf = true) (wk : (Lit.int .i64 k).wf = true) (hs : s.size ≤ maxLen) (ha : a.size ≤ maxLen) (hc : c.size ≤ maxLen) (hk : s.size + a.size + c.size ≤ 1048576) :
    Calls Try.prog 6 #[.int .i64 n, .int .i64 k, .string s, .string a, .string c] w fun e w' => e = .returned (.bool true) ∧ Below w.heap.size w w' := by
  have hB : Below w.heap.size w w := Below.refl _ _
  have hs' := hs
  have sz1 : ∀ x : ByteArray, (cat [a, x, c]).size = a.size + x.size + c.size := by
    intro x; rw [cat_size]; simp; omega
  have tok1 : True := trivial
  by_cases hp : putOk n k = true
  · have eE := putE_ok hp
    obtain ⟨k1, k6, -, -⟩ := (putOk_iff n k).1 hp
    obtain ⟨g1, g2, g3⟩ := mid_get a c n k hp
    have pz := putS_size hp
    have hA : Hid (a.size + (putS n k).size + c.size ≤ 140737488355328) := by show _ ≤ _; omega
    have mA : Hid ((cat [a, putS n k, c]).size ≤ maxLen) := by show _ ≤ _; rw [sz1]; unfold maxLen; omega
    clear pz hp wk
    by_cases h : s.size ≤ 65535
    · have tE : textE s = 0 := by rw [textE, if_pos h]
      obtain ⟨c1, c2, c3⟩ := mid_cut a s c h
      have hC : Hid (a.size + (textS s).size + c.size ≤ 140737488355328) := by show _ ≤ _; rw [textS_size h]; omega
      have mC : Hid ((cat [a, textS s, c]).size ≤ maxLen) := by show _ ≤ _; rw [sz1, textS_size h]; unfold maxLen; omega
      clear sz1 h hs ha hc
      go_enter Try.func6, Try.ntmps6
      go_wp2_with (first
        | (go_at_call 9; refine (put_any _ _ _).mono ?_; rintro e w' ⟨rfl, hb⟩; replace hB := Below.tr hB hb; clear hb)
        | (go_at_call 12; refine (text_any _ _ hs').mono ?_; rintro e w' ⟨rfl, hb⟩; replace hB := Below.tr hB hb; clear hb)
        | (go_at_call 22; have _t := tok1; refine (all_three _ _ _ _ hA.out).mono ?_; rintro e w' ⟨rfl, hb⟩; replace hB := Below.tr hB hb; clear hb tok1)
        | (go_at_call 22; refine (all_three _ _ _ _ hC.out).mono ?_; rintro e w' ⟨rfl, hb⟩; replace hB := Below.tr hB hb; clear hb)
        | (go_at_call 18; refine (get_any _ _ _ _ mA.out).mono ?_; rintro e w' ⟨rfl, rfl⟩)
        | (go_at_call 20; refine (cut_any _ _ _ mC.out).mono ?_; rintro e w' ⟨rfl, rfl⟩)
        | (go_at_call 11; refine (alive_any _).mono ?_; rintro e w' ⟨rfl, hb⟩; replace hB := Below.tr hB hb; clear hb))
      go_ret
      exact ⟨rfl, hB⟩
    · have tE : textE s = 2 := by rw [textE, if_neg h]
      have h' : (65535 : Int) < s.size := by omega
      clear sz1 h hs ha hc
      go_enter Try.func6, Try.ntmps6
      go_wp2_with (first
        | (go_at_call 9; refine (put_any _ _ _).mono ?_; rintro e w' ⟨rfl, hb⟩; replace hB := Below.tr hB hb; clear hb)
        | (go_at_call 12; refine (text_any _ _ hs').mono ?_; rintro e w' ⟨rfl, hb⟩; replace hB := Below.tr hB hb; clear hb)
        | (go_at_call 22; refine (all_three _ _ _ _ hA.out).mono ?_; rintro e w' ⟨rfl, hb⟩; replace hB := Below.tr hB hb; clear hb)
        | (go_at_call 18; refine (get_any _ _ _ _ mA.out).mono ?_; rintro e w' ⟨rfl, rfl⟩)
        | (go_at_call 11; refine (alive_any _).mono ?_; rintro e w' ⟨rfl, hb⟩; replace hB := Below.tr hB hb; clear hb))
      go_ret
      exact ⟨rfl, hB⟩
  · have eE : putE n k = 1 := putE_bad (by simpa using hp)
    clear hp
    by_cases h : s.size ≤ 65535
    · have tE : textE s = 0 := by rw [textE, if_pos h]
      obtain ⟨c1, c2, c3⟩ := mid_cut a s c h
      have hC : Hid (a.size + (textS s).size + c.size ≤ 140737488355328) := by show _ ≤ _; rw [textS_size h]; omega
      have mC : Hid ((cat [a, textS s, c]).size ≤ maxLen) := by show _ ≤ _; rw [sz1, textS_size h]; unfold maxLen; omega
      clear sz1 h hs ha hc
      go_enter Try.func6, Try.ntmps6
      go_wp2_with (first
        | (go_at_call 9; refine (put_any _ _ _).mono ?_; rintro e w' ⟨rfl, hb⟩; replace hB := Below.tr hB hb; clear hb)
        | (go_at_call 12; refine (text_any _ _ hs').mono ?_; rintro e w' ⟨rfl, hb⟩; replace hB := Below.tr hB hb; clear hb)
        | (go_at_call 22; refine (all_three _ _ _ _ hC.out).mono ?_; rintro e w' ⟨rfl, hb⟩; replace hB := Below.tr hB hb; clear hb)
        | (go_at_call 20; refine (cut_any _ _ _ mC.out).mono ?_; rintro e w' ⟨rfl, rfl⟩)
        | (go_at_call 11; refine (alive_any _).mono ?_; rintro e w' ⟨rfl, hb⟩; replace hB := Below.tr hB hb; clear hb))
      go_ret
      exact ⟨rfl, hB⟩
    · have tE : textE s = 2 := by rw [textE, if_neg h]
      have h' : (65535 : Int) < s.size := by omega
      clear sz1 h hs ha hc
      go_enter Try.func6, Try.ntmps6
      go_wp2_with (first
        | (go_at_call 9; refine (put_any _ _ _).mono ?_; rintro e w' ⟨rfl, hb⟩; replace hB := Below.tr hB hb; clear hb)
        | (go_at_call 12; refine (text_any _ _ hs').mono ?_; rintro e w' ⟨rfl, hb⟩; replace hB := Below.tr hB hb; clear hb)
        | (go_at_call 11; refine (alive_any _).mono ?_; rintro e w' ⟨rfl, hb⟩; replace hB := Below.tr hB hb; clear hb))
      go_ret
      exact ⟨rfl, hB⟩

end Go.Proofs.Yteagclnommaobaa
