/-
  How much a device that is handed in can take: its slices lie within the reach.
-/
import Derived.Test.YtogadbckiaghcaaDevOpen
import Derived.SizedLaws
namespace Go.Proofs.Ytogadbckiaghcaa
open Go.RowKit Plain Go.ChangeShapes Go.WideShapes
set_option linter.unusedVariables false

theorem sized_S {H : Type} {enc : TypeId × Value → H} {w : World} {fuel n c : Nat} {a : Option Addr} {x : DataW H × List MemPlace}
    (h : DataW.trod enc Try.prog w 0 (fun _ => true) true fuel 22 [.slice a n c] = some x) (hw : ∀ m ∈ x.1.weights Try.prog 22, m ≤ reachBytes) : n * 16 ≤ reachBytes := by
  rcases open_strings Try.underlying22 Try.underlying9 (by kernel_rfl) h with ⟨hcs, _⟩ | ⟨a', l, c', ss, hcs, _, hl, hm, hz, hx, hcell, hwz⟩
  · simp at hcs
    obtain ⟨_, rfl, _⟩ := hcs
    simp
  · simp at hcs
    obtain ⟨_, rfl, rfl⟩ := hcs
    simp at hz
    rw [hx] at hw
    have hb : Try.prog.bytesOf 9 = 16 := by kernel_rfl
    have := hw (((strs (H := H) (ss.take n)).length + (strs (H := H) (ss.drop n)).length) * Try.prog.bytesOf 9) (by simp [DataW.weights, Try.underlying22])
    rw [hb] at this
    have e : (strs (H := H) (ss.take n)).length + (strs (H := H) (ss.drop n)).length = ss.length := by simp [strs]; omega
    rw [e, hz] at this
    omega

theorem sized_P {H : Type} {enc : TypeId × Value → H} {w : World} {fuel n c : Nat} {a : Option Addr} {x : DataW H × List MemPlace}
    (h : DataW.trod enc Try.prog w 0 (fun _ => true) true fuel 23 [.slice a n c] = some x) (hw : ∀ m ∈ x.1.weights Try.prog 23, m ≤ reachBytes) : n * 24 ≤ reachBytes := by
  rcases Deep.open_slice_pairs Try.underlying23 Try.underlying50 (by kernel_rfl) rfl rfl (by kernel_rfl) (by kernel_rfl) h with ⟨hcs, _⟩ | ⟨a', l, c', m, k, V0, V1, D0, D1, P0, P1, hcs, _, hl, hm, hmm, hx, hcell⟩
  · simp at hcs
    obtain ⟨_, rfl, _⟩ := hcs
    simp
  · simp at hcs
    obtain ⟨_, rfl, rfl⟩ := hcs
    rw [hx] at hw
    have hb : Try.prog.bytesOf 50 = 24 := by kernel_rfl
    have := hw ((n + (m - n)) * Try.prog.bytesOf 50) (by simp [DataW.weights, Try.underlying23])
    rw [hb] at this
    omega

theorem sized_dev {H : Type} {enc : TypeId × Value → H} {w : World} {r : Reach} {b0 n c n' c' : Nat} {a a' : Option Addr} {d : DataW H} {p : List MemPlace}
    (hv : Value.okWide Try.prog w r b0 25 (.agg #[.slice a n c, .slice a' n' c'])) (h : DataW.Trod enc Try.prog w 0 (fun _ => true) true 25 (.agg #[.slice a n c, .slice a' n' c']) d p)
    (hw : ∀ m ∈ d.weights Try.prog 25, m ≤ reachBytes) : n * 16 ≤ 140737488355328 ∧ n' * 24 ≤ 140737488355328 := by
  have hR : reachBytes ≤ 140737488355328 := by decide
  obtain ⟨v0, v1, y0, y1, k, e, hd, _, h0, h1⟩ := Joins.open_agg2 Try.underlying25 (by kernel_rfl) (by kernel_rfl) hv h
  simp only [Value.agg.injEq, Array.mk.injEq, List.cons.injEq, and_true] at e
  obtain ⟨rfl, rfl⟩ := e
  rw [hd] at hw
  have hm : ∀ m, m ∈ y0.1.weights Try.prog 22 ∨ m ∈ y1.1.weights Try.prog 23 → m ≤ reachBytes := by
    intro m hm
    refine hw m ?_
    simp only [DataW.weights, Try.underlying25]
    simp only [List.map_cons, List.map_nil, DataW.weightsEach, List.append_nil, List.mem_append]
    exact hm
  exact ⟨Nat.le_trans (sized_S h0 fun m h => hm m (.inl h)) hR, Nat.le_trans (sized_P h1 fun m h => hm m (.inr h)) hR⟩

end Go.Proofs.Ytogadbckiaghcaa
