/-
  A task and a state as they are handed in; the statements' own alive.
-/
import Derived.Test.YtnipikdlfmcheaaTaskDo
import Derived.Lib.SmallJoins
namespace Go.Proofs.Ytnipikdlfmcheaa
open Go.RowKit Plain Go.ChangeShapes Go.WideShapes
set_option linter.unusedVariables false

theorem arrayT5 {α : Type} {cs : Array α} (h : cs.size = 5) : ∃ c0 c1 c2 c3 c4, cs = #[c0, c1, c2, c3, c4] := by
  rcases cs with ⟨l⟩
  match l, h with
  | [c0, c1, c2, c3, c4], _ => exact ⟨c0, c1, c2, c3, c4, rfl⟩

set_option maxRecDepth 20000 in
theorem open_task {H : Type} {enc : TypeId × Value → H} {w : World} {r : Reach} {b0 : Nat} {v : Value} {d : DataW H} {p : List MemPlace}
    (hv : Value.okWide Try.prog w r b0 24 v) (h : DataW.Trod enc Try.prog w 0 (fun _ => true) true 24 v d p) :
    ∃ ta tc ns tr wt le, v = .agg #[.slice ta ns.length tc, .int .i64 tr, .int .i64 wt, .int .i64 le] ∧ IsI w ta tc ns ∧ (Lit.int .i64 tr).wf = true ∧ (Lit.int .i64 wt).wf = true ∧ (Lit.int .i64 le).wf = true := by
  obtain ⟨v0, v1, v2, v3, y0, y1, y2, y3, n, rfl, _, _, h0, h1, h2, h3⟩ := Joins.open_agg4 Try.underlying24 (by kernel_rfl) (by kernel_rfl) hv h
  obtain ⟨ta, tc, ns, hI0, hI⟩ := open_I h0
  obtain ⟨tr, hr, _, hrw⟩ := DataW.trod_int (k := .i64) Try.underlying3 h1
  obtain ⟨wt, hm, _, hmw⟩ := DataW.trod_int (k := .i64) Try.underlying3 h2
  obtain ⟨le, hz, _, hzw⟩ := DataW.trod_int (k := .i64) Try.underlying3 h3
  simp at hr hm hz
  subst hr hm hz hI0
  exact ⟨ta, tc, ns, tr, wt, le, rfl, hI, hrw, hmw, hzw⟩

set_option maxRecDepth 20000 in
theorem open_state {H : Type} {enc : TypeId × Value → H} {w : World} {r : Reach} {b0 : Nat} {v : Value} {d : DataW H} {p : List MemPlace}
    (hv : Value.okWide Try.prog w r b0 26 v) (h : DataW.Trod enc Try.prog w 0 (fun _ => true) true 26 v d p) :
    ∃ i t du k s, v = .agg #[.int .i64 i, .int .i64 t, .int .i64 du, .int .i64 k, .string s] ∧ (Lit.int .i64 i).wf = true ∧ (Lit.int .i64 t).wf = true ∧ (Lit.int .i64 du).wf = true ∧ (Lit.int .i64 k).wf = true ∧ s.size ≤ maxLen := by
  obtain ⟨cs, rfl, hsz⟩ := okWide_struct Try.underlying26 hv
  obtain ⟨c0, c1, c2, c3, c4, rfl⟩ := arrayT5 (hsz.trans (by kernel_rfl))
  obtain ⟨fuel, hf⟩ := h
  obtain ⟨xs, n, _, _, hl, hlen, hg⟩ := DataW.trod_struct Try.underlying26 hf
  match xs, hlen with
  | [y0, y1, y2, y3, y4], _ =>
    have s1 : Try.prog.cellsOf 9 = 1 := by kernel_rfl
    have s2 : Try.prog.cellsOf 3 = 1 := by kernel_rfl
    have h0 := hg 0 _ rfl
    have h1 := hg 1 _ rfl
    have h2 := hg 2 _ rfl
    have h3 := hg 3 _ rfl
    have h4 := hg 4 _ rfl
    simp [Value.cells, s1, s2] at h0 h1 h2 h3 h4
    obtain ⟨i, e0, _, w0⟩ := DataW.trod_int (k := .i64) Try.underlying3 h0
    obtain ⟨t, e1, _, w1⟩ := DataW.trod_int (k := .i64) Try.underlying3 h1
    obtain ⟨du, e2, _, w2⟩ := DataW.trod_int (k := .i64) Try.underlying3 h2
    obtain ⟨k, e3, _, w3⟩ := DataW.trod_int (k := .i64) Try.underlying3 h3
    obtain ⟨s, e4, _, w4⟩ := DataW.trod_string Try.underlying9 h4
    simp at e0 e1 e2 e3 e4
    subst e0 e1 e2 e3 e4
    exact ⟨i, t, du, k, s, rfl, w0, w1, w2, w3, w4⟩

theorem wf_le {n : Int} (h : (Lit.int .i64 n).wf = true) : -9223372036854775808 ≤ n ∧ n ≤ 9223372036854775807 := by simpa [Lit.wf, IntKind.min, IntKind.max, IntKind.signed, IntKind.bits] using h

set_option maxRecDepth 20000 in
theorem alive18_any (w : World) : Calls Try.prog 9 #[] w fun e w' => e = .returned (.bool true) ∧ Below w.heap.size w w' := by
  have c1 : ∀ W, Calls Try.prog 12 #[.agg #[.int .i64 0, .int .i64 0, .int .i64 0, .int .i64 0, .string ⟨#[]⟩]] W fun e w' => e = .returned (.agg #[.int .i64 1, .int .i64 0, .int .i64 0, .int .i64 0, .string ⟨#[]⟩]) ∧ Below W.heap.size W w' := fun W => readyT_any 0 0 0 0 ⟨#[]⟩ W
  go_enter Try.func9, Try.ntmps9
  go_wp2_with (go_at_call 12; refine (c1 _).mono ?_; rintro e w' ⟨rfl, hb⟩)
  go_ret
  exact ⟨rfl, hb⟩

end Go.Proofs.Ytnipikdlfmcheaa
