/-
  The statements' own few: graphs with few tasks and needs.
-/
import Derived.Test.YtmjhapkhfelbpaaDagMem
namespace Go.Proofs.Ytmjhapkhfelbpaa
open Go.RowKit Plain
set_option linter.unusedVariables false

def cutV (t : TaskV) : TaskV := { t with ns := t.ns.take 20 }
def fewT (ts : List TaskV) : List TaskV := (ts.take 20).map cutV

/-- The first so many are cut. -/
def cutVs (ts : List TaskV) (j : Nat) : List TaskV := (ts.take j).map cutV ++ ts.drop j

theorem cutVs_zero (ts : List TaskV) : cutVs ts 0 = ts := by simp [cutVs]
theorem cutVs_length (ts : List TaskV) (j : Nat) : (cutVs ts j).length = ts.length := by simp [cutVs]; omega
theorem cutVs_all (ts : List TaskV) : cutVs ts ts.length = ts.map cutV := by simp [cutVs]

theorem cutVs_at {ts : List TaskV} {j : Nat} {t : TaskV} (h : ts[j]? = some t) : (cutVs ts j)[j]? = some t := by
  have hj := (List.getElem?_eq_some_iff.1 h).1
  unfold cutVs
  rw [List.getElem?_append_right (by simp; omega), List.length_map, List.length_take, Nat.min_eq_left (by omega), Nat.sub_self, List.getElem?_drop, Nat.add_zero]
  exact h

theorem cutVs_succ {ts : List TaskV} {j : Nat} {t : TaskV} (h : ts[j]? = some t) : cutVs ts (j + 1) = (cutVs ts j).set j (cutV t) := by
  have hj := (List.getElem?_eq_some_iff.1 h).1
  unfold cutVs
  rw [List.take_add_one, h, List.map_append, List.set_append_right _ _ (by simp; omega), List.length_map, List.length_take, Nat.min_eq_left (by omega), Nat.sub_self, List.drop_eq_getElem_cons hj, List.set_cons_zero, List.append_assoc]
  rfl

theorem fewT_length (ts : List TaskV) : (fewT ts).length ≤ 20 := by unfold fewT; rw [List.length_map, List.length_take]; omega
theorem fewT_needs (ts : List TaskV) : ∀ t ∈ fewT ts, t.ns.length ≤ 20 := by
  intro t ht
  obtain ⟨u, _, rfl⟩ := List.mem_map.1 ht
  show (u.ns.take 20).length ≤ 20
  rw [List.length_take]; omega

/-- What few answers. -/
def FewC (w : World) (s : ByteArray) (ts : List TaskV) (e : Ending) (w' : World) : Prop :=
  ∃ a c n, n = (fewT ts).length ∧ e = .returned (.agg #[.string s, .slice a n c]) ∧ IsT w' a c (fewT ts) ∧ From w.heap.size a ∧ Below w.heap.size w w'

set_option maxRecDepth 20000 in
set_option maxHeartbeats 4000000 in
/-- FEW. -/
theorem few16_any (s : ByteArray) (a : Option Addr) (c n : Nat) (ts0 : List TaskV) (w : World) (hn : n = ts0.length) (hT0 : IsT w a c ts0) :
    Calls Try.prog 8 #[.agg #[.string s, .slice a n c]] w fun e w' => FewC w s ts0 e w' := by
  obtain ⟨ts, hts⟩ : ∃ ts, ts = ts0.take 20 := ⟨_, rfl⟩
  obtain ⟨m, hm⟩ : ∃ m, m = ts.length := ⟨_, rfl⟩
  have hmin : min (n : Int) 20 = (m : Int) := by rw [hm, hts, List.length_take, hn]; omega
  have hmc : m ≤ c := by rw [hm, hts, List.length_take]; have := hT0.1; omega
  have hmn : m ≤ n := by omega
  have hnm : n ≤ 9223372036854775807 := by rw [hn]; exact Nat.le_trans hT0.1 hT0.2.1
  have hnc : n ≤ c := by rw [hn]; exact hT0.1
  have hcm : c ≤ 9223372036854775807 := hT0.2.1
  have hmr := min_run hmin
  have hm20 : m ≤ 20 := by omega
  obtain ⟨W, hW⟩ : ∃ W, W = (w.alloc (.cells #[.string s, .slice a n c] 24)).alloc (.cells #[.string ⟨#[]⟩, .slice none 0 0] 24) := ⟨_, rfl⟩
  have hB0 : Below w.heap.size w W := by rw [hW]; exact ((Below.refl _ _).alloc (Nat.le_refl _) _).alloc (by simp) _
  have bX : BoxL W w.heap.size [.string s, .slice a n c] := by rw [hW]; exact (boxL_new w _ _ rfl).alloc _
  have bY : BoxL W (w.heap.size + 1) [.string ⟨#[]⟩, .slice none 0 0] := by rw [hW]; exact boxL_new _ _ _ (by simp)
  have hT : IsT W a c ts := by rw [hts]; exact (hT0.below hB0).take 20
  have hsz : W.heap.size = w.heap.size + 1 + 1 := by rw [hW]; simp
  obtain ⟨g, cap, w1, hrun, hg, hrow, hb1⟩ := copyK W a c m ts hm hT (by omega) 22
  rw [hsz] at hrun hg
  have hB1 : Below w.heap.size w w1 := Below.tr hB0 hb1
  have HN : Hid (NeedsIn w ts) := by rw [hts]; exact (hT0.take 20).2.2.1
  have HF : Hid (fewT ts0 = ts.map cutV) := by show _ = _; rw [hts]; rfl
  have HM : Hid (m = ts.length) := hm
  have HR : Hid (RowK w1 g cap ts) := hrow
  have bX1 := bX.below hb1
  have bY1 := bY.below hb1
  have hgl : m ≤ cap ∧ cap ≤ maxLen := by obtain ⟨_, _, _, h1, h2, _⟩ := hrow; exact ⟨by omega, h2⟩
  obtain ⟨hgl1, hgl2⟩ := hgl
  obtain ⟨q0, q1⟩ : W.cell? ⟨w.heap.size, 0, none⟩ = some (.string s) ∧ W.cell? ⟨w.heap.size, 1, none⟩ = some (.slice a n c) := ⟨bX.1 0 _ rfl, bX.1 1 _ rfl⟩
  have q1' := cell_alloc q1
  have f1 : w1.frozen? ⟨w.heap.size, 1, none⟩ = false := bX1.2 1 (by simp)
  have y1 := bX1.1 1 _ rfl
  clear hT0 hT hts hn hrow bX bY hm hB0 hb1 hmin
  go_enter Try.func8, Try.ntmps8
  go_wp2_with (at_builtin; rw [← hW]; refine Lib.wpList_append_run _ rfl _ _ _ _ rfl _ _ rfl rfl _ _ hrun ?_)
  obtain ⟨V, hV⟩ : ∃ V, V = w1.setCell ⟨w.heap.size, 1, none⟩ (.slice (some ⟨g, 0, none⟩) m cap) := ⟨_, rfl⟩
  have bX2 : BoxL V w.heap.size [.string s, .slice (some ⟨g, 0, none⟩) m cap] := by rw [hV]; exact bX1.set 1 _
  have bY2 : BoxL V (w.heap.size + 1) [.string ⟨#[]⟩, .slice none 0 0] := by rw [hV]; exact bY1.off (by omega)
  have hB2 : Below w.heap.size w V := by rw [hV]; exact hB1.setCell (p := ⟨w.heap.size, 1, none⟩) (Nat.le_refl _) _
  have R2 : RowK V g cap (cutVs ts 0) := by rw [hV, cutVs_zero]; exact HR.out.other (by omega)
  rw [← hV]
  clear hV HR bX1 bY1 hB1 hrun q0 q1 q1' f1 y1 hmr
  go_loopw [18] (fun v wr => ∃ j : Nat, j ≤ m ∧ v = .int .i64 j ∧ BoxL wr w.heap.size [.string s, .slice (some ⟨g, 0, none⟩) m cap] ∧ BoxL wr (w.heap.size + 1) [.string ⟨#[]⟩, .slice none 0 0] ∧ RowK wr g cap (cutVs ts j) ∧ Below w.heap.size w wr) (fun v _ => m - (intOf v).toNat)
  case atStart => exact ⟨0, by omega, rfl, bX2, bY2, R2, hB2⟩
  case round =>
    clear bX2 bY2 R2 hB2
    obtain ⟨j, hj, rfl, bX, bY, hR, hB⟩ := hrel
    by_cases hlt : j < m
    · have hlt' : (j : Int) < m := by omega
      obtain ⟨t, ht⟩ : ∃ t, ts[j]? = some t := ⟨_, List.getElem?_eq_getElem (by rw [← HM.out]; exact hlt)⟩
      obtain ⟨d0, d1, d2, d3⟩ := cellsT_at (cutVs_at ht)
      obtain ⟨z0, g0⟩ := hR.at d0
      obtain ⟨z1, -⟩ := hR.at d1
      obtain ⟨z2, -⟩ := hR.at d2
      obtain ⟨z3, -⟩ := hR.at d3
      have hI := HN.out t (List.mem_of_getElem? ht)
      obtain ⟨k, hk⟩ : ∃ k, k = t.ns.length := ⟨_, rfl⟩
      obtain ⟨q, hq⟩ : ∃ q, q = (t.ns.take 20).length := ⟨_, rfl⟩
      have hmin2 : min (k : Int) 20 = (q : Int) := by rw [hk, hq, List.length_take]; omega
      have hmr2 := min_run hmin2
      have hqk : q ≤ k := by omega
      have hkc : k ≤ t.c := by rw [hk]; exact hI.1
      have htc : t.c ≤ 9223372036854775807 := hI.2.1
      have hqc : q ≤ t.c := by omega
      rw [← hk] at z0
      have hgb : g < wr.heap.size := hR.lt
      obtain ⟨Y, hY⟩ : ∃ Y, Y = ((wr.setCell ⟨g, j * 4, none⟩ (.slice t.a q t.c)).alloc (.cells #[.slice t.a k t.c, .int .i64 t.tr, .int .i64 t.wt, .int .i64 t.le] 46)).drew := ⟨_, rfl⟩
      have hbA : Below (wr.setCell ⟨g, j * 4, none⟩ (.slice t.a q t.c)).heap.size (wr.setCell ⟨g, j * 4, none⟩ (.slice t.a q t.c)) Y := by rw [hY]; exact ((Below.refl _ _).alloc (Nat.le_refl _) _).drew
      have RY : Hid (RowK Y g cap (cutVs ts (j + 1))) := by
        show RowK _ _ _ _
        rw [cutVs_succ ht]
        have := hR.cut (cutVs_at ht) (t.ns.take 20) (by rw [List.length_take]; omega)
        rw [← hq] at this
        exact this.below hbA
      have BY : Below w.heap.size w Y := Below.tr (hB.setCell (p := ⟨g, j * 4, none⟩) (by show _ ≤ g; omega) _) hbA
      have XY : BoxL Y w.heap.size [.string s, .slice (some ⟨g, 0, none⟩) m cap] := (bX.off (by omega)).below hbA
      have YY : BoxL Y (w.heap.size + 1) [.string ⟨#[]⟩, .slice none 0 0] := (bY.off (by omega)).below hbA
      have x1 := bX.1 1 _ rfl
      have x1' := cell_alloc x1
      have g0' : ∀ o, (wr.alloc o).frozen? ⟨g, j * 4, none⟩ = false := fun o => by rw [((Below.refl wr.heap.size wr).alloc (Nat.le_refl _) o).frozen (p := ⟨g, j * 4, none⟩) hgb]; exact g0
      have z0' := cell_alloc z0
      obtain ⟨ta, hta⟩ : ∃ ta, ta = t.a := ⟨_, rfl⟩
      obtain ⟨tc, htc2⟩ : ∃ tc, tc = t.c := ⟨_, rfl⟩
      clear hR bX bY hI hk hq d0 d1 d2 d3 ht hB hbA
      go_wp2
      go_region
      go_wp2
      rw [← hY]
      go_roundw
      case rel => exact ⟨j + 1, by omega, by go_num, XY, YY, RY.out, BY⟩
      case measure => simp [intOf]; omega
    · obtain rfl : j = m := by omega
      have hR2 : Hid (RowK wr g cap ((ts.map cutV))) := by rw [← cutVs_all, ← HM.out]; exact hR
      have x0 := bX.1 0 _ rfl
      have x1 := bX.1 1 _ rfl
      obtain ⟨y0, y1⟩ : wr.frozen? ⟨w.heap.size + 1, 0, none⟩ = false ∧ wr.frozen? ⟨w.heap.size + 1, 1, none⟩ = false := ⟨bY.2 0 (by simp), bY.2 1 (by simp)⟩
      have YR := (bY.set 0 (.string s)).set 1 (.slice (some ⟨g, 0, none⟩) j cap)
      have r0 := YR.1 0 _ rfl
      have r1 := YR.1 1 _ rfl
      have hx : ¬ (j : Int) < j := by omega
      clear hR YR
      have z0 := bY.1 0 _ rfl
      have z1 := bY.1 1 _ rfl
      go_wp2
      obtain ⟨Z, hZ⟩ : ∃ Z, Z = (wr.setCell ⟨w.heap.size + 1, 0, none⟩ (.string s)).setCell ⟨w.heap.size + 1, 1, none⟩ (.slice (some ⟨g, 0, none⟩) j cap) := ⟨_, rfl⟩
      have hBZ : Below w.heap.size w Z := by rw [hZ]; exact (hB.setCell (p := ⟨w.heap.size + 1, 0, none⟩) (Nat.le_succ _) _).setCell (p := ⟨w.heap.size + 1, 1, none⟩) (Nat.le_succ _) _
      have hRZ : RowK Z g cap (ts.map cutV) := by rw [hZ]; exact (hR2.out.other (by omega)).other (by omega)
      have hNZ : NeedsIn Z (ts.map cutV) := by
        intro t ht
        obtain ⟨u, hu, rfl⟩ := List.mem_map.1 ht
        exact ((HN.out u hu).below hBZ).take 20
      rw [← hZ] at r0 r1 ⊢
      refine bodyPost_ret (v := .agg #[.string s, .slice (some ⟨g, 0, none⟩) j cap]) (by simp [results, Try.results8, go_sem, r0, r1]) rfl ⟨some ⟨g, 0, none⟩, cap, j, ?_, rfl, ?_, fun x hx => by cases hx; show w.heap.size ≤ g; omega, hBZ⟩
      · rw [HF.out, List.length_map]; exact HM.out
      · rw [HF.out]; exact hRZ.isT hNZ

end Go.Proofs.Ytmjhapkhfelbpaa
