/-
  What code.All, code.Text, code.Trim and code.Pad do, for every text.
-/
import Derived.Test.YteagclnommaobaaPut
import Derived.Test.YteagclnommaobaaPlainB
import Derived.Test.YteagclnommaobaaShelf
namespace Go.Proofs.Yteagclnommaobaa
open Go.RowKit Plain
set_option linter.unusedVariables false

set_option maxHeartbeats 400000 in
theorem all_row (bk o c : Nat) (xs : List ByteArray) (w : World) (hcells : ∀ (j : Nat) x, xs[j]? = some x → w.cell? ⟨bk, o + j, none⟩ = some (.string x)) (hbk : bk < w.heap.size) (hN : xs.length ≤ 140737488355328) (hcap : xs.length ≤ c) (hlen : (cat xs).size ≤ 140737488355328) :
    Calls Try.prog 22 #[.slice (some ⟨bk, o, none⟩) xs.length c] w fun e w' => e = .returned (.string (cat xs)) ∧ Below w.heap.size w w' := by
  have h := Try.strings_Join bk o c xs ⟨#[]⟩ w hcells hbk hN hcap (by
    show (Lib.join _ []).length ≤ _
    rw [join_flat]
    simpa [cat, ByteArray.size] using hlen)
  have e1 : (⟨(Lib.join (xs.map (·.data.toList)) (⟨#[]⟩ : ByteArray).data.toList).toArray⟩ : ByteArray) = cat xs := by
    show (⟨(Lib.join _ []).toArray⟩ : ByteArray) = _
    rw [join_flat]; rfl
  rw [e1] at h
  clear hcells hlen e1
  go_enter Try.func22, Try.ntmps22
  go_wp2_with (go_at_call 26; refine h.mono ?_; rintro e w' ⟨rfl, hb⟩)
  go_ret
  exact ⟨rfl, hb⟩

theorem all_two (a b : ByteArray) (w : World) (hlen : a.size + b.size ≤ 140737488355328) :
    Calls Try.prog 22 #[.slice (some ⟨w.heap.size, 0, none⟩) 2 2] (w.alloc (.cells #[.string a, .string b] 9)) fun e w' => e = .returned (.string (cat [a, b])) ∧ Below w.heap.size w w' := by
  refine (all_row w.heap.size 0 2 [a, b] _ ?_ (by simp) (by simp) (by simp) (by rw [cat_size]; simpa using hlen)).mono fun e w' ⟨he, hb⟩ => ⟨he, ((Below.refl _ _).alloc (Nat.le_refl _) _).trans (hb.mono (by simp))⟩
  intro j x hj
  rw [Nat.zero_add, World.cell?_alloc_at _ _ _ _ rfl]
  match j, hj with
  | 0, hj => simp at hj; subst hj; rfl
  | 1, hj => simp at hj; subst hj; rfl

theorem all_three (a b c : ByteArray) (w : World) (hlen : a.size + b.size + c.size ≤ 140737488355328) :
    Calls Try.prog 22 #[.slice (some ⟨w.heap.size, 0, none⟩) 3 3] (w.alloc (.cells #[.string a, .string b, .string c] 9)) fun e w' => e = .returned (.string (cat [a, b, c])) ∧ Below w.heap.size w w' := by
  refine (all_row w.heap.size 0 3 [a, b, c] _ ?_ (by simp) (by simp) (by simp) (by rw [cat_size]; simp; omega)).mono fun e w' ⟨he, hb⟩ => ⟨he, ((Below.refl _ _).alloc (Nat.le_refl _) _).trans (hb.mono (by simp))⟩
  intro j x hj
  rw [Nat.zero_add, World.cell?_alloc_at _ _ _ _ rfl]
  match j, hj with
  | 0, hj => simp at hj; subst hj; rfl
  | 1, hj => simp at hj; subst hj; rfl
  | 2, hj => simp at hj; subst hj; rfl

set_option maxHeartbeats 400000 in
theorem all_none (w : World) (a : Option Addr) (c : Nat) :
    Calls Try.prog 22 #[.slice a 0 c] w fun e w' => e = .returned (.string (cat [])) ∧ w = w' := by
  go_enter Try.func22, Try.ntmps22
  go_wp2_with (go_at_call 26; refine (Try.strings_Join_none _ _ _ _).mono ?_; rintro e w' ⟨rfl, rfl⟩)
  go_ret
  exact ⟨rfl, rfl⟩

set_option maxHeartbeats 400000 in
theorem text_any (s : ByteArray) (w : World) (hs : s.size ≤ maxLen) :
    Calls Try.prog 12 #[.string s] w fun e w' => e = .returned (.tuple #[.string (textS s), .int .i64 (textE s)]) ∧ Below w.heap.size w w' := by
  unfold maxLen at hs
  have hB : Below w.heap.size w w := Below.refl _ _
  by_cases h : s.size ≤ 65535
  · have h' : ¬ (65535 : Int) < s.size := by omega
    rw [textS, textE, if_pos h, if_pos h]
    have hok : putOk s.size 2 = true := by
      rw [putOk_iff]
      refine ⟨by omega, by omega, by omega, ?_⟩
      show (s.size : Int) < 65536
      omega
    have e1 := putS_ok hok
    have e2 := putE_ok hok
    have e3 : (2 : Int).toNat = 2 := rfl
    rw [e3] at e1
    have hl : (⟨(putL s.size 2).toArray⟩ : ByteArray).size + s.size ≤ 140737488355328 := by rw [size_mk, putL_length]; omega
    clear hok e3
    go_enter Try.func12, Try.ntmps12
    go_wp2_with (first
      | (go_at_call 9; refine (put_any _ _ _).mono ?_; rintro e w' ⟨rfl, hb⟩; replace hB := Below.tr hB hb; clear hb)
      | (go_at_call 22; refine (all_two _ _ _ hl).mono ?_; rintro e w' ⟨rfl, hb⟩; replace hB := Below.tr hB hb; clear hb))
    go_ret2
    exact ⟨rfl, hB⟩
  · have h' : (65535 : Int) < s.size := by omega
    rw [textS, textE, if_neg h, if_neg h]
    go_enter Try.func12, Try.ntmps12
    go_wp2
    go_ret2
    exact ⟨rfl, hB⟩

set_option maxHeartbeats 400000 in
theorem trim_any (s : ByteArray) (w : World) (hs : s.size ≤ maxLen) :
    Calls Try.prog 16 #[.string s] w fun e w' => e = .returned (.string (trimS s)) ∧ w = w' := by
  unfold maxLen at hs
  go_enter Try.func16, Try.ntmps16
  go_wp2
  go_loop [3] (fun v => ∃ k : Nat, k ≤ s.size ∧ v = .int .i64 k ∧ trimN s s.size = trimN s k) (fun v => (intOf v).toNat)
  case atStart => exact ⟨s.size, by omega, rfl, rfl⟩
  case round =>
    obtain ⟨k, hk, rfl, HT⟩ := hrel
    have HT' : Hid (trimN s s.size = trimN s k) := HT
    clear HT
    match k, hk, HT' with
    | 0, hk, HT' =>
      have e0 : Hid (trimS s = ByteArray.empty) := trimS_none s HT'.out
      go_wp2
      go_ret
      exact ⟨ret_str e0.out.symm, rfl⟩
    | k + 1, hk, HT' =>
      have ek : (((k + 1 : Nat) : Int)) = (k : Int) + 1 := by omega
      rw [ek]
      by_cases hz : s[k] = 0
      · have ht : Hid (trimN s (k + 1) = trimN s k) := trimN_down s k (by omega) hz
        have hz' : ((s[k].toNat : Int) == 0) = true := by rw [hz]; rfl
        clear hz
        go_wp2
        go_round
        case rel => exact ⟨k, by omega, rfl, by rw [HT'.out, ht.out]⟩
        case measure => simp [intOf]
      · have ht : Hid (trimN s (k + 1) = k + 1) := trimN_stay s k (by omega) hz
        have hz' : ((s[k].toNat : Int) == 0) = false := by
          have : s[k].toNat ≠ 0 := fun h => hz (UInt8.toNat_inj.1 h)
          simpa using this
        clear hz
        go_wp2
        go_ret
        exact ⟨ret_str (by rw [trimS, HT'.out, ht.out]), rfl⟩

theorem repeat_any (c : Nat) (w : World) (h : c ≤ 4096) :
    Calls Try.prog 25 #[.string ⟨#[0]⟩, .int .i64 c] w fun e w' => e = .returned (.string (zeros c)) ∧ Below w.heap.size w w' := by
  have h := Try.strings_Repeat ⟨#[0]⟩ c w (by omega) (by show 1 * c ≤ _; omega)
  have e1 : (⟨(Lib.repeatL (⟨#[0]⟩ : ByteArray).data.toList c).toArray⟩ : ByteArray) = zeros c := by
    show (⟨(Lib.repeatL [0] c).toArray⟩ : ByteArray) = _
    rw [repeat_flat]; rfl
  rw [e1] at h
  exact h

set_option maxHeartbeats 400000 in
/-- PAD, at all arguments. -/
theorem pad_any (s : ByteArray) (k : Int) (w : World) (hs : s.size ≤ maxLen) :
    Calls Try.prog 14 #[.string s, .int .i64 k] w fun e w' => e = .returned (.tuple #[.string (padS s k), .int .i64 (padE s k)]) ∧ Below w.heap.size w w' := by
  unfold maxLen at hs
  have hB : Below w.heap.size w w := Below.refl _ _
  by_cases h : 0 ≤ k ∧ k ≤ 4096
  · obtain ⟨h0, h1⟩ := h
    obtain ⟨m, rfl⟩ : ∃ m : Nat, k = m := ⟨k.toNat, by omega⟩
    have hk0 : ¬ (m : Int) < 0 := by omega
    have hk1 : ¬ (4096 : Int) < m := by omega
    by_cases hl : s.size ≤ m
    · have hE : padE s m = 0 := by unfold padE; rw [if_pos ⟨h0, h1⟩, if_pos (by omega)]
      have hl' : ¬ m < s.size := by omega
      have ed : (m : Int) - (s.size : Int) = ((m - s.size : Nat) : Int) := by omega
      have hz : s.size + (zeros (m - s.size)).size ≤ 140737488355328 := by
        rw [zeros_size]; omega
      have hr := fun w => repeat_any (m - s.size) w (by omega)
      rw [padS, hE, if_pos rfl, ← cat_two]
      show Calls _ _ _ _ fun e w' => e = .returned (.tuple #[.string (cat [s, zeros (m - s.size)]), .int .i64 0]) ∧ _
      generalize m - s.size = d at ed hz hr
      clear hE
      go_enter Try.func14, Try.ntmps14
      go_wp2_with (first
        | (go_at_call 25; refine (hr _).mono ?_; rintro e w' ⟨rfl, hb⟩; replace hB := Below.tr hB hb; clear hb)
        | (go_at_call 22; refine (all_two _ _ _ hz).mono ?_; rintro e w' ⟨rfl, hb⟩; replace hB := Below.tr hB hb; clear hb))
      go_ret2
      exact ⟨rfl, hB⟩
    · have hE : padE s m = 2 := by unfold padE; rw [if_pos ⟨h0, h1⟩, if_neg (by omega)]
      rw [padS, hE, if_neg (by decide)]
      have hl' : m < s.size := by omega
      clear hE
      go_enter Try.func14, Try.ntmps14
      go_wp2
      go_ret2
      exact ⟨rfl, hB⟩
  · have hE : padE s k = 1 := by unfold padE; rw [if_neg h]
    rw [padS, hE, if_neg (by decide)]
    clear hE
    by_cases h0 : k < 0
    · go_enter Try.func14, Try.ntmps14
      go_wp2
      go_ret2
      exact ⟨rfl, hB⟩
    · have h1 : 4096 < k := by omega
      clear h
      go_enter Try.func14, Try.ntmps14
      go_wp2
      go_ret2
      exact ⟨rfl, hB⟩

end Go.Proofs.Yteagclnommaobaa
