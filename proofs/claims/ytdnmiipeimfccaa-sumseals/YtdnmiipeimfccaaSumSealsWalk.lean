/-
  The walk of the law SumSeals: it returns true at all arguments.
-/
import Derived.Test.YtdnmiipeimfccaaSumRefSeal
namespace Go.Proofs.Ytdnmiipeimfccaa
open Go.RowKit Plain

set_option maxHeartbeats 400000 in
theorem sumSeals_walk (s : ByteArray) (w : World) (hs : s.size ≤ maxLen) :
    Calls Try.prog 5 #[.string s] w fun e w' => e = .returned (.bool true) ∧ Below w.heap.size w w' := by
  have hB : Below w.heap.size w w := Below.refl _ _
  have hx := shortS_max s
  have h1 : Hid ((shortS s).size ≤ maxLen) := Nat.le_trans hx (by decide)
  have h2 : Hid ((shortS s).size ≤ 1000000) := Nat.le_trans hx (by decide)
  clear hx
  go_enter Try.func5, Try.ntmps5
  go_wp2_with (first
    | (go_at_call 9; refine (short_any _ _ hs).mono ?_; rintro e w' ⟨rfl, rfl⟩)
    | (go_at_call 15; refine (open_any _ _ h1.out).mono ?_; rintro e w' ⟨rfl, hb⟩; replace hB := Below.tr hB hb; clear hb)
    | (go_at_call 16; refine (refOpen_any _ _ h2.out).mono ?_; rintro e w' ⟨rfl, hb⟩; replace hB := Below.tr hB hb; clear hb)
    | (go_at_call 17; refine (seal_ok _ _ h2.out).mono ?_; rintro e w' ⟨rfl, hb⟩; replace hB := Below.tr hB hb; clear hb)
    | (go_at_call 18; refine (refSeal_ok _ _ h2.out).mono ?_; rintro e w' ⟨rfl, hb⟩; replace hB := Below.tr hB hb; clear hb)
    | (go_at_call 10; refine (alive_any _).mono ?_; rintro e w' ⟨rfl, hb⟩; replace hB := Below.tr hB hb; clear hb))
  go_ret
  exact ⟨rfl, hB⟩

end Go.Proofs.Ytdnmiipeimfccaa
