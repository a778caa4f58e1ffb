/-
  A wood as it is handed in.
-/
import Derived.Test.YtaecfbfcjaailaaGreatBdC
import Derived.Test.YtaecfbfcjaailaaGreatBdA
import Derived.Lib.SmallJoins
namespace Go.Proofs.YtaecfbfcjaailaaGreat
open Go.RowKit Plain Go.ChangeShapes Go.WideShapes
set_option linter.unusedVariables false

theorem array5 {α : Type} {cs : Array α} (h : cs.size = 5) : ∃ c0 c1 c2 c3 c4, cs = #[c0, c1, c2, c3, c4] := by
  rcases cs with ⟨l⟩
  match l, h with
  | [c0, c1, c2, c3, c4], _ => exact ⟨c0, c1, c2, c3, c4, rfl⟩

set_option maxRecDepth 20000 in
theorem open_wood {H : Type} {enc : TypeId × Value → H} {w : World} {r : Reach} {b0 : Nat} {v : Value} {d : DataW H} {p : List MemPlace}
    (hv : Value.okWide Tryz.prog w r b0 27 v) (h : DataW.Trod enc Tryz.prog w 0 (fun _ => true) true 27 v d p) :
    ∃ a c bs a' c' ns b f ps root gen, v = .agg #[.slice a bs.length c, .slice a' ns.length c', .slice b ps.length f, .int .i64 root, .int .i64 gen] ∧ IsB w a c bs ∧ IsB w a' c' ns ∧ IsS w b f ps ∧ (Lit.int .i64 root).wf = true ∧ (Lit.int .i64 gen).wf = true := by
  obtain ⟨cs, rfl, hsz⟩ := okWide_struct Tryz.underlying27 hv
  obtain ⟨c0, c1, c2, c3, c4, rfl⟩ := array5 (hsz.trans (by kernel_rfl))
  obtain ⟨fuel, hf⟩ := h
  obtain ⟨y0, y1, y2, y3, n, hx, _, h0, h1, h2, h3⟩ := Joins.trod_struct4 Tryz.underlying27 hf
  have s0 : Tryz.prog.cellsOf 24 = 2 := by kernel_rfl
  have s1 : Tryz.prog.cellsOf 25 = 1 := by kernel_rfl
  have s2 : Tryz.prog.cellsOf 3 = 1 := by kernel_rfl
  have s3 : Tryz.prog.cellsOf 22 = 1 := by kernel_rfl
  simp only [Value.cells, s0, s1, s2, List.drop_zero, List.drop_succ_cons, List.take_succ_cons, List.take_zero] at h0 h1 h2 h3
  obtain ⟨z0, z1, m, _, _, g0, g1⟩ := trod_struct2 Tryz.underlying24 h0
  simp only [s3, List.drop_zero, List.drop_succ_cons, List.take_succ_cons, List.take_zero] at g0 g1
  obtain ⟨a, c, bs, rfl, hB⟩ := open_B g0
  obtain ⟨a', c', ns, rfl, hB'⟩ := open_B g1
  obtain ⟨b, f, ps, rfl, hP⟩ := open_S h1
  obtain ⟨root, hr, _, wr⟩ := DataW.trod_int (k := .i64) Tryz.underlying3 h2
  obtain ⟨gen, hg, _, wg⟩ := DataW.trod_int (k := .i64) Tryz.underlying3 h3
  simp at hr hg
  subst hr hg
  exact ⟨a, c, bs, a', c', ns, b, f, ps, root, gen, rfl, hB, hB', hP, wr, wg⟩

end Go.Proofs.YtaecfbfcjaailaaGreat
