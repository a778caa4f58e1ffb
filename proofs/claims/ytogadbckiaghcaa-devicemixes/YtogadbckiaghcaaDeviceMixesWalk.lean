/-
  The walk of the law DeviceMixes: it returns true at all arguments.
-/
import Derived.Test.YtogadbckiaghcaaDevRefBytes
import Derived.Test.YtogadbckiaghcaaDevNew
namespace Go.Proofs.Ytogadbckiaghcaa
open Go.RowKit Plain

set_option maxHeartbeats 2000000 in
theorem deviceMixes_walk (o n : ByteArray) (m i : Int) (w : World) (ho : o.size ≤ maxLen) (hn : n.size ≤ maxLen) (_hm : (Lit.int .i64 m).wf = true) (_hi : (Lit.int .i64 i).wf = true) :
    Calls Try.prog 6 #[.string o, .string n, .int .i64 m, .int .i64 i] w fun e w' => e = .returned (.bool true) ∧ Below w.heap.size w w' := by
  have hB : Below w.heap.size w w := Below.refl _ _
  go_enter Try.func6, Try.ntmps6
  go_wp2_with (first
    | (go_at_call 12; refine (alive_any _).mono ?_; rintro e w' ⟨rfl, hb⟩; replace hB := Below.tr hB hb; clear hb)
    | (go_at_call 22; refine (mix_any o n m _ ho hn).mono ?_; rintro e w' ⟨rfl, hb⟩; replace hB := Below.tr hB hb; clear hb)
    | (go_at_call 23; refine (refMix_any o n m _ ho hn).mono ?_; rintro e w' ⟨rfl, hb⟩; replace hB := Below.tr hB hb; clear hb)
    | (go_at_call 24; refine (sector_any o i _ ho).mono ?_; rintro e w' ⟨rfl, hb⟩; replace hB := Below.tr hB hb; clear hb)
    | (go_at_call 25; refine (refSector_any o i _ ho).mono ?_; rintro e w' ⟨rfl, hb⟩; replace hB := Below.tr hB hb; clear hb))
  go_ret
  exact ⟨rfl, hB⟩

end Go.Proofs.Ytogadbckiaghcaa
