/-
  The walk of the law SumIs: it returns true at all arguments.
-/
import Derived.Test.YtdnmiipeimfccaaSumRef
namespace Go.Proofs.Ytdnmiipeimfccaa
open Go.RowKit Plain

theorem ret_bool {a b : Bool} (h : a = b) : Ending.returned (.bool a) = .returned (.bool b) := by rw [h]

theorem shortS_len (s : ByteArray) : (shortS s).size ≤ maxLen := Nat.le_trans (shortS_max s) (by decide)

theorem wf_u32 {n : Int} (h : (Lit.int .u32 n).wf = true) : ∃ k : Nat, n = k ∧ k < 4294967296 := by
  have h' : (IntKind.u32.min ≤ n ∧ n ≤ IntKind.u32.max) := by simpa [Lit.wf] using h
  have e1 : IntKind.u32.min = 0 := rfl
  have e2 : IntKind.u32.max = 4294967295 := rfl
  exact ⟨n.toNat, by omega, by omega⟩

set_option maxHeartbeats 400000 in
theorem sumIs_walk (s : ByteArray) (n : Int) (w : World) (hs : s.size ≤ maxLen) (wn : (Lit.int .u32 n).wf = true) :
    Calls Try.prog 3 #[.string s, .int .u32 n] w fun e w' => e = .returned (.bool true) ∧ Below w.heap.size w w' := by
  have hB : Below w.heap.size w w := Below.refl _ _
  obtain ⟨k, rfl, hk⟩ := wf_u32 wn
  have ht : Hid ((shortS s).size ≤ maxLen) := shortS_len s
  clear wn
  go_enter Try.func3, Try.ntmps3
  go_wp2_with (first
    | (go_at_call 9; refine (short_any _ _ hs).mono ?_; rintro e w' ⟨rfl, rfl⟩)
    | (go_at_call 11; refine (of_one _ _ ht.out).mono ?_; rintro e w' ⟨rfl, hb⟩; replace hB := Below.tr hB hb; clear hb)
    | (go_at_call 12; refine (refOf_ok _ _ ht.out).mono ?_; rintro e w' ⟨rfl, rfl⟩)
    | (go_at_call 13; refine (on_ok _ _ _ hk ht.out).mono ?_; rintro e w' ⟨rfl, rfl⟩)
    | (go_at_call 14; refine (refOn_ok _ _ _ hk ht.out).mono ?_; rintro e w' ⟨rfl, rfl⟩)
    | (go_at_call 10; refine (alive_any _).mono ?_; rintro e w' ⟨rfl, hb⟩; replace hB := Below.tr hB hb; clear hb))
  go_ret
  exact ⟨rfl, hB⟩

end Go.Proofs.Ytdnmiipeimfccaa
