/-
  What code.All and code.Text do, for every text.
-/
import Derived.Test.YtnipikdlfmcheaaPut
import Derived.Test.YtnipikdlfmcheaaPlainB
import Derived.Test.YtnipikdlfmcheaaShelf
namespace Go.Proofs.Ytnipikdlfmcheaa
open Go.RowKit Plain
set_option linter.unusedVariables false

set_option maxHeartbeats 400000 in
theorem all_row (bk o c : Nat) (xs : List ByteArray) (w : World) (hcells : ∀ (j : Nat) x, xs[j]? = some x → w.cell? ⟨bk, o + j, none⟩ = some (.string x)) (hbk : bk < w.heap.size) (hN : xs.length ≤ 140737488355328) (hcap : xs.length ≤ c) (hlen : (cat xs).size ≤ 140737488355328) :
    Calls Try.prog 39 #[.slice (some ⟨bk, o, none⟩) xs.length c] w fun e w' => e = .returned (.string (cat xs)) ∧ Below w.heap.size w w' := by
  have h := Try.strings_Join bk o c xs ⟨#[]⟩ w hcells hbk hN hcap (by
    show (Lib.join _ []).length ≤ _
    rw [join_flat]
    simpa [cat, ByteArray.size] using hlen)
  have e1 : (⟨(Lib.join (xs.map (·.data.toList)) (⟨#[]⟩ : ByteArray).data.toList).toArray⟩ : ByteArray) = cat xs := by
    show (⟨(Lib.join _ []).toArray⟩ : ByteArray) = _
    rw [join_flat]; rfl
  rw [e1] at h
  clear hcells hlen e1
  go_enter Try.func39, Try.ntmps39
  go_wp2_with (go_at_call 49; refine h.mono ?_; rintro e w' ⟨rfl, hb⟩)
  go_ret
  exact ⟨rfl, hb⟩

theorem all_two (a b : ByteArray) (w : World) (hlen : a.size + b.size ≤ 140737488355328) :
    Calls Try.prog 39 #[.slice (some ⟨w.heap.size, 0, none⟩) 2 2] (w.alloc (.cells #[.string a, .string b] 9)) fun e w' => e = .returned (.string (cat [a, b])) ∧ Below w.heap.size w w' := by
  refine (all_row w.heap.size 0 2 [a, b] _ ?_ (by simp) (by simp) (by simp) (by rw [cat_size]; simpa using hlen)).mono fun e w' ⟨he, hb⟩ => ⟨he, ((Below.refl _ _).alloc (Nat.le_refl _) _).trans (hb.mono (by simp))⟩
  intro j x hj
  rw [Nat.zero_add, World.cell?_alloc_at _ _ _ _ rfl]
  match j, hj with
  | 0, hj => simp at hj; subst hj; rfl
  | 1, hj => simp at hj; subst hj; rfl

theorem all_three (a b c : ByteArray) (w : World) (hlen : a.size + b.size + c.size ≤ 140737488355328) :
    Calls Try.prog 39 #[.slice (some ⟨w.heap.size, 0, none⟩) 3 3] (w.alloc (.cells #[.string a, .string b, .string c] 9)) fun e w' => e = .returned (.string (cat [a, b, c])) ∧ Below w.heap.size w w' := by
  refine (all_row w.heap.size 0 3 [a, b, c] _ ?_ (by simp) (by simp) (by simp) (by rw [cat_size]; simp; omega)).mono fun e w' ⟨he, hb⟩ => ⟨he, ((Below.refl _ _).alloc (Nat.le_refl _) _).trans (hb.mono (by simp))⟩
  intro j x hj
  rw [Nat.zero_add, World.cell?_alloc_at _ _ _ _ rfl]
  match j, hj with
  | 0, hj => simp at hj; subst hj; rfl
  | 1, hj => simp at hj; subst hj; rfl
  | 2, hj => simp at hj; subst hj; rfl

set_option maxHeartbeats 400000 in
theorem all_none (w : World) (a : Option Addr) (c : Nat) :
    Calls Try.prog 39 #[.slice a 0 c] w fun e w' => e = .returned (.string ⟨#[]⟩) ∧ w = w' := by
  go_enter Try.func39, Try.ntmps39
  go_wp2_with (go_at_call 49; refine (Try.strings_Join_none _ _ _ _).mono ?_; rintro e w' ⟨rfl, rfl⟩)
  go_ret
  exact ⟨rfl, rfl⟩

set_option maxHeartbeats 400000 in
theorem text_any (s : ByteArray) (w : World) (hs : s.size ≤ maxLen) :
    Calls Try.prog 51 #[.string s] w fun e w' => e = .returned (.tuple #[.string (textS s), .int .i64 (textE s)]) ∧ Below w.heap.size w w' := by
  unfold maxLen at hs
  have hB : Below w.heap.size w w := Below.refl _ _
  by_cases h : s.size ≤ 65535
  · have h' : ¬ (65535 : Int) < s.size := by omega
    rw [textS, textE, if_pos h, if_pos h]
    have hok : putOk s.size 2 = true := by
      rw [putOk_iff]
      refine ⟨by omega, by omega, by omega, ?_⟩
      show (s.size : Int) < 65536
      omega
    have e1 := putS_ok hok
    have e2 := putE_ok hok
    have e3 : (2 : Int).toNat = 2 := rfl
    rw [e3] at e1
    have hl : (⟨(putL s.size 2).toArray⟩ : ByteArray).size + s.size ≤ 140737488355328 := by rw [size_mk, putL_length]; omega
    clear hok e3
    go_enter Try.func51, Try.ntmps51
    go_wp2_with (first
      | (go_at_call 50; refine (put_any _ _ _).mono ?_; rintro e w' ⟨rfl, hb⟩; replace hB := Below.tr hB hb; clear hb)
      | (go_at_call 39; refine (all_two _ _ _ hl).mono ?_; rintro e w' ⟨rfl, hb⟩; replace hB := Below.tr hB hb; clear hb))
    go_ret2
    exact ⟨rfl, hB⟩
  · have h' : (65535 : Int) < s.size := by omega
    rw [textS, textE, if_neg h, if_neg h]
    go_enter Try.func51, Try.ntmps51
    go_wp2
    go_ret2
    exact ⟨rfl, hB⟩

end Go.Proofs.Ytnipikdlfmcheaa
