/-
  A page as it is handed in: two numbers and a text.
-/
import Derived.Test.YtoajdkjffnnamaaMem
namespace Go.Proofs.Ytoajdkjffnnamaa
open Go.RowKit Plain Go.ChangeShapes Go.WideShapes
set_option linter.unusedVariables false

theorem open_page {H : Type} {enc : TypeId × Value → H} {w : World} {r : Reach} {b0 : Nat} {v : Value} {d : DataW H} {p : List MemPlace}
    (hv : Value.okWide Try.prog w r b0 23 v) (h : DataW.Trod enc Try.prog w 0 (fun _ => true) true 23 v d p) :
    ∃ k g s, v = .agg #[.int .i64 k, .int .i64 g, .string s] ∧ (-9223372036854775808 ≤ k ∧ k ≤ 9223372036854775807) ∧ (-9223372036854775808 ≤ g ∧ g ≤ 9223372036854775807) ∧ s.size ≤ maxLen := by
  obtain ⟨v0, v1, v2, y0, y1, y2, n, rfl, _, _, h0, h1, h2⟩ := Joins.open_agg3 Try.underlying23 (by kernel_rfl) (by kernel_rfl) hv h
  obtain ⟨k, hk, _, hkw⟩ := DataW.trod_int (k := .i64) Try.underlying3 h0
  obtain ⟨g, hg, _, hgw⟩ := DataW.trod_int (k := .i64) Try.underlying3 h1
  obtain ⟨s, hs, _, hss⟩ := DataW.trod_string Try.underlying9 h2
  simp at hk hg hs
  subst hk hg hs
  have b1 : -9223372036854775808 ≤ k ∧ k ≤ 9223372036854775807 := by simpa [Lit.wf, IntKind.min, IntKind.max, IntKind.signed, IntKind.bits] using hkw
  have b2 : -9223372036854775808 ≤ g ∧ g ≤ 9223372036854775807 := by simpa [Lit.wf, IntKind.min, IntKind.max, IntKind.signed, IntKind.bits] using hgw
  exact ⟨k, g, s, rfl, b1, b2, hss⟩

end Go.Proofs.Ytoajdkjffnnamaa
