/-
  What code.Trim does, for every text.
-/
import Derived.Test.YtogadbckiaghcaaRows
import Derived.Test.YtogadbckiaghcaaDevModel
import Derived.WalkSpells
import Derived.WalkLawsBesides
import Derived.Handy
import Derived.Deep.OwnRows
import Derived.Laws.CopyOwn
namespace Go.Proofs.Ytogadbckiaghcaa
open Go.RowKit Plain
set_option linter.unusedVariables false

theorem Try.info5 : (Try.prog.info? 5).map (fun i => (i.zero, i.size, i.bytes)) = some (some (.int .u8 0), 1, 1) := by kernel_rfl

theorem ret_bool {a b : Bool} (h : a = b) : Ending.returned (.bool a) = .returned (.bool b) := by rw [h]

theorem ret_str {a b : ByteArray} (h : a = b) : Ending.returned (.string a) = .returned (.string b) := by rw [h]

/-- What holds below the heap's first size holds on through one call more. -/
theorem Below.tr {w a b : World} (h : Below w.heap.size w a) (k : Below a.heap.size a b) : Below w.heap.size w b := h.trans (k.mono h.size)

set_option maxHeartbeats 400000 in
theorem trim_any (s : ByteArray) (w : World) (hs : s.size ≤ maxLen) :
    Calls Try.prog 31 #[.string s] w fun e w' => e = .returned (.string (trimS s)) ∧ w = w' := by
  unfold maxLen at hs
  go_enter Try.func31, Try.ntmps31
  go_wp2
  go_loop [3] (fun v => ∃ k : Nat, k ≤ s.size ∧ v = .int .i64 k ∧ trimN s s.size = trimN s k) (fun v => (intOf v).toNat)
  case atStart => exact ⟨s.size, by omega, rfl, rfl⟩
  case round =>
    obtain ⟨k, hk, rfl, HT⟩ := hrel
    have HT' : Hid (trimN s s.size = trimN s k) := HT
    clear HT
    match k, hk, HT' with
    | 0, hk, HT' =>
      have e0 : Hid (trimS s = ByteArray.empty) := trimS_none s HT'.out
      go_wp2
      go_ret
      exact ⟨ret_str e0.out.symm, rfl⟩
    | k + 1, hk, HT' =>
      have ek : (((k + 1 : Nat) : Int)) = (k : Int) + 1 := by omega
      rw [ek]
      by_cases hz : s[k] = 0
      · have ht : Hid (trimN s (k + 1) = trimN s k) := trimN_down s k (by omega) hz
        have hz' : ((s[k].toNat : Int) == 0) = true := by rw [hz]; rfl
        clear hz
        go_wp2
        go_round
        case rel => exact ⟨k, by omega, rfl, by rw [HT'.out, ht.out]⟩
        case measure => simp [intOf]
      · have ht : Hid (trimN s (k + 1) = k + 1) := trimN_stay s k (by omega) hz
        have hz' : ((s[k].toNat : Int) == 0) = false := by
          have : s[k].toNat ≠ 0 := fun h => hz (UInt8.toNat_inj.1 h)
          simpa using this
        clear hz
        go_wp2
        go_ret
        exact ⟨ret_str (by rw [trimS, HT'.out, ht.out]), rfl⟩

end Go.Proofs.Ytogadbckiaghcaa
