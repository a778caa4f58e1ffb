/-
  The document's Get of a dag.
-/
import Derived.Test.YtmjhapkhfelbpaaDagRefRead
import Derived.Test.YtmjhapkhfelbpaaDagGet
import Derived.Test.YtmjhapkhfelbpaaDagRefRight
namespace Go.Proofs.Ytmjhapkhfelbpaa
open Go.RowKit Plain Anylast
set_option linter.unusedVariables false

theorem cutS_leD (s : ByteArray) (p : Int) : (cutS s p).size ≤ s.size := by
  unfold cutS
  split
  · rw [ByteArray.size_extract]; omega
  · exact Nat.zero_le _

set_option maxRecDepth 20000 in
set_option maxHeartbeats 4000000 in
theorem refGet16_any (s : ByteArray) (w : World) (hz : s.size ≤ maxLen) :
    Calls Try.prog 19 #[.string s] w fun e w' => Got2 w s e w' := by
  obtain ⟨W, hW⟩ : ∃ W, W = (w.alloc (.cells #[.string ⟨#[]⟩, .slice none 0 0] 24)).alloc (.cells #[.string s, .int .i64 0, .int .i64 0] 67) := ⟨_, rfl⟩
  have bX : BoxL W w.heap.size [.string ⟨#[]⟩, .slice none 0 0] := by rw [hW]; exact (boxL_new _ [.string ⟨#[]⟩, .slice none 0 0] _ rfl).alloc _
  have bR : BoxL W (w.heap.size + 1) [.string s, .int .i64 0, .int .i64 0] := by rw [hW]; exact boxL_new _ [.string s, .int .i64 0, .int .i64 0] _ (by simp)
  have hB0 : Below w.heap.size w W := by rw [hW]; exact ((Below.refl _ _).alloc (Nat.le_refl _) _).alloc (by simp) _
  have zW : W.heap.size = w.heap.size + 2 := by rw [hW]; simp
  have cR := refRead_any (w.heap.size + 1) s W bR hz
  have hzz : s.size ≤ 9223372036854775807 := hz
  obtain ⟨nm, hnm⟩ : ∃ x, x = cutS s 0 := ⟨_, rfl⟩
  have hnz : nm.size ≤ maxLen := Nat.le_trans (by rw [hnm]; exact cutS_leD s 0) hz
  obtain ⟨PF, hPF⟩ : ∃ x, x = (dgF s).p := ⟨_, rfl⟩
  obtain ⟨EF, hEF⟩ : ∃ x, x = (dgF s).e := ⟨_, rfl⟩
  obtain ⟨TF, hTF⟩ : ∃ x, x = (dgF s).ts := ⟨_, rfl⟩
  obtain ⟨r, hr⟩ : ∃ x, x = rightG nm TF := ⟨_, rfl⟩
  rw [← hnm, ← hPF, ← hEF, ← hTF] at cR
  have HE : Hid (gtE s = if EF = 0 then (if PF = s.size then r else 4) else EF) := by show _ = _; unfold gtE; rw [hr, hnm, hTF, hPF, hEF]
  have HN : Hid (gtE s = 0 → gtN s = nm ∧ gtT s = TF) := fun h => by unfold gtN gtT; rw [if_pos h, if_pos h, hnm, hTF]; exact ⟨rfl, rfl⟩
  have HR : Hid (r = rightG nm TF) := hr
  have HZW : Hid (W.heap.size = w.heap.size + 2) := zW
  have HBW : Hid (∀ (w1 : World) o, Turns (fun k => k = w.heap.size + 1) W w1 → BoxL (w1.alloc o) w.heap.size [.string ⟨#[]⟩, .slice none 0 0] ∧ Below w.heap.size w (w1.alloc o)) := fun w1 o tt => by
    have hs := tt.size
    exact ⟨(boxL_turns bX tt (by omega)).alloc o, (Below.turns hB0 tt (by omega)).alloc (by omega) o⟩
  have HQ : Hid (∀ (w1 : World) o a c ts, plainT ts = TF → IsT w1 a c ts → Calls Try.prog 9 #[.agg #[.string nm, .slice a ts.length c]] (w1.alloc o) fun e w' => e = .returned (.int .i64 r) ∧ Below (w1.alloc o).heap.size (w1.alloc o) w') := fun w1 o a c ts hp hT => by
    have := refRight16_any nm a c ts.length ts (w1.alloc o) hnz rfl (hT.alloc o)
    rw [hp, ← HR.out] at this
    exact this
  clear hnm hPF hEF hTF hr hz bX hB0 zW bR hnz
  have e1 : gtE s = gtE s := rfl
  by_cases h0 : EF = 0
  · obtain rfl := h0
    by_cases hP : PF = s.size
    · have hPE : (PF != (s.size : Int)) = false := by simp [hP]
      by_cases hr0 : r = 0
      · obtain rfl := hr0
        have HG : Hid (gtE s = 0) := by show _ = _; rw [HE.out, if_pos rfl, if_pos hP]
        clear hP HE e1
        go_enter Try.func19, Try.ntmps19
        go_wp2_with (first
          | (go_at_call 36; rw [← hW]; refine cR.mono ?_; rintro e w1 ⟨a, c, ts, rfl, hbr, hp, hT, hF, hNF, ht⟩; clear cR hW; obtain ⟨K, hK⟩ : ∃ k, k = ts.length := ⟨_, rfl⟩; replace hp : Hid _ := hp; rw [← hK]; have HK : Hid (K = ts.length) := hK; clear hK; have rb := hbr.alloc (.cells #[.string nm, .slice a K c] 24); have r1 := rb.1 1 _ rfl; have r2 := rb.1 2 _ rfl; obtain ⟨x, hb2⟩ := HBW.out w1 (.cells #[.string nm, .slice a K c] 24) ht; have x0 := x.1 0 _ rfl; have x1 := x.1 1 _ rfl; have y0 := x.2 0 (by simp); have y1 := x.2 1 (by simp); have z := (x.set 0 (.string ⟨#[]⟩)).set 1 (.slice none 0 0); have z0 := z.1 0 _ rfl; have z1 := z.1 1 _ rfl)
          | (go_at_call 9; go_loud (clear x0 x1 y0 y1 z0 z1 z rb r1 r2; have cQ := HQ.out w1 (.cells #[.string nm, .slice a K c] 24) a c ts (hp.out (by first | rfl | trivial)) hT; rw [← HK.out] at cQ; refine cQ.mono ?_; rintro e w2 ⟨rfl, hb3⟩; clear cQ; have hb4 := Below.tr hb2 hb3; have x2 := x.below hb3; have x0 := x2.1 0 _ rfl; have x1 := x2.1 1 _ rfl; have y0 := x2.2 0 (by simp); have y1 := x2.2 1 (by simp); have d := (boxL_new w1 [.string nm, .slice a K c] 24 rfl).below hb3; have d0 := d.1 0 _ rfl; have d1 := d.1 1 _ rfl; have z := (x2.set 0 (.string nm)).set 1 (.slice a K c); have z0 := z.1 0 _ rfl; have z1 := z.1 1 _ rfl)))
        clear x0 x1 y0 y1 d0 d1
        refine bodyPost_ret (v := .tuple #[.agg #[.string nm, .slice a K c], .int .i64 0]) (by simp [results, Try.results19, go_sem, z0, z1]) rfl ⟨a, c, ts, ?_, ?_, ?_, hF.mono (by rw [HZW.out]; omega), Below.setTwo hb4 (Nat.le_refl _) _ _⟩
        · rw [HG.out, (HN.out HG.out).1, HK.out]
        · rw [(HN.out HG.out).2, hp.out (by first | rfl | trivial)]
        · have hT2 := (hT.alloc (.cells #[.string nm, .slice a K c] 24)).below hb3
          have tt : Turns (fun i => i = w.heap.size) w2 ((w2.setCell ⟨w.heap.size, 0, none⟩ (.string nm)).setCell ⟨w.heap.size, 1, none⟩ (.slice a K c)) := ((Turns.refl (fun i => i = w.heap.size) w2).setCell (p := ⟨w.heap.size, 0, none⟩) rfl _).setCell (p := ⟨w.heap.size, 1, none⟩) rfl _
          exact hT2.turns' tt (fun x hx e => by have := hF x hx; have := HZW.out; omega) (fun u hu hne x hx e => by have := hNF u hu hne x hx; have := HZW.out; omega)
      · have hrE : (r != 0) = true := by simpa using hr0
        have HG : Hid (gtE s = r) := by show _ = _; rw [HE.out, if_pos rfl, if_pos hP]
        clear hP HE e1
        go_enter Try.func19, Try.ntmps19
        go_wp2_with (first
          | (go_at_call 36; rw [← hW]; refine cR.mono ?_; rintro e w1 ⟨a, c, ts, rfl, hbr, hp, hT, hF, hNF, ht⟩; clear cR hW; obtain ⟨K, hK⟩ : ∃ k, k = ts.length := ⟨_, rfl⟩; replace hp : Hid _ := hp; rw [← hK]; have HK : Hid (K = ts.length) := hK; clear hK; have rb := hbr.alloc (.cells #[.string nm, .slice a K c] 24); have r1 := rb.1 1 _ rfl; have r2 := rb.1 2 _ rfl; obtain ⟨x, hb2⟩ := HBW.out w1 (.cells #[.string nm, .slice a K c] 24) ht; have x0 := x.1 0 _ rfl; have x1 := x.1 1 _ rfl; have y0 := x.2 0 (by simp); have y1 := x.2 1 (by simp); have z := (x.set 0 (.string ⟨#[]⟩)).set 1 (.slice none 0 0); have z0 := z.1 0 _ rfl; have z1 := z.1 1 _ rfl)
          | (go_at_call 9; clear x0 x1 y0 y1 z0 z1 z rb r1 r2; have cQ := HQ.out w1 (.cells #[.string nm, .slice a K c] 24) a c ts (hp.out (by first | rfl | trivial)) hT; rw [← HK.out] at cQ; refine cQ.mono ?_; rintro e w2 ⟨rfl, hb3⟩; clear cQ; have hb4 := Below.tr hb2 hb3; have x2 := x.below hb3; have x0 := x2.1 0 _ rfl; have x1 := x2.1 1 _ rfl; have y0 := x2.2 0 (by simp); have y1 := x2.2 1 (by simp); have d := (boxL_new w1 [.string nm, .slice a K c] 24 rfl).below hb3; have d0 := d.1 0 _ rfl; have d1 := d.1 1 _ rfl; have z := (x2.set 0 (.string ⟨#[]⟩)).set 1 (.slice none 0 0); have z0 := z.1 0 _ rfl; have z1 := z.1 1 _ rfl))
        clear x0 x1 y0 y1 d0 d1
        exact bodyPost_ret (v := .tuple #[.agg #[.string ⟨#[]⟩, .slice none 0 0], .int .i64 r]) (by simp [results, Try.results19, go_sem, z0, z1]) rfl (got2_none HG.out hr0 (Below.setTwo hb4 (Nat.le_refl _) _ _))
    · have hPE : (PF != (s.size : Int)) = true := by simpa using hP
      have HG : Hid (gtE s = 4) := by show _ = _; rw [HE.out, if_pos rfl, if_neg hP]
      clear hP HE e1
      go_enter Try.func19, Try.ntmps19
      go_wp2_with (go_at_call 36; rw [← hW]; refine cR.mono ?_; rintro e w1 ⟨a, c, ts, rfl, hbr, hp, hT, hF, hNF, ht⟩; clear cR hW; obtain ⟨K, hK⟩ : ∃ k, k = ts.length := ⟨_, rfl⟩; replace hp : Hid _ := hp; rw [← hK]; have HK : Hid (K = ts.length) := hK; clear hK; have rb := hbr.alloc (.cells #[.string nm, .slice a K c] 24); have r1 := rb.1 1 _ rfl; have r2 := rb.1 2 _ rfl; obtain ⟨x, hb2⟩ := HBW.out w1 (.cells #[.string nm, .slice a K c] 24) ht; have x0 := x.1 0 _ rfl; have x1 := x.1 1 _ rfl; have y0 := x.2 0 (by simp); have y1 := x.2 1 (by simp); have z := (x.set 0 (.string ⟨#[]⟩)).set 1 (.slice none 0 0); have z0 := z.1 0 _ rfl; have z1 := z.1 1 _ rfl)
      clear x0 x1 y0 y1
      exact bodyPost_ret (v := .tuple #[.agg #[.string ⟨#[]⟩, .slice none 0 0], .int .i64 4]) (by simp [results, Try.results19, go_sem, z0, z1]) rfl (got2_none HG.out (by decide) (Below.setTwo hb2 (Nat.le_refl _) _ _))
  · have hE : (EF != 0) = true := by simpa using h0
    have HG : Hid (gtE s = EF) := by show _ = _; rw [HE.out, if_neg h0]
    clear HE e1
    go_enter Try.func19, Try.ntmps19
    go_wp2_with (go_at_call 36; rw [← hW]; refine cR.mono ?_; rintro e w1 ⟨a, c, ts, rfl, hbr, hp, hT, hF, hNF, ht⟩; clear cR hW; obtain ⟨K, hK⟩ : ∃ k, k = ts.length := ⟨_, rfl⟩; replace hp : Hid _ := hp; rw [← hK]; have HK : Hid (K = ts.length) := hK; clear hK; have rb := hbr.alloc (.cells #[.string nm, .slice a K c] 24); have r1 := rb.1 1 _ rfl; have r2 := rb.1 2 _ rfl; obtain ⟨x, hb2⟩ := HBW.out w1 (.cells #[.string nm, .slice a K c] 24) ht; have x0 := x.1 0 _ rfl; have x1 := x.1 1 _ rfl; have y0 := x.2 0 (by simp); have y1 := x.2 1 (by simp); have z := (x.set 0 (.string ⟨#[]⟩)).set 1 (.slice none 0 0); have z0 := z.1 0 _ rfl; have z1 := z.1 1 _ rfl)
    go_region
    go_wp2
    have zd := boxL_turns z ((Turns.refl (fun _ => False) _).drew) id
    have zd0 := zd.1 0 _ rfl
    have zd1 := zd.1 1 _ rfl
    exact bodyPost_ret (v := .tuple #[.agg #[.string ⟨#[]⟩, .slice none 0 0], .int .i64 EF]) (by simp [results, Try.results19, go_sem, zd0, zd1]) rfl (got2_none HG.out h0 (Below.setTwo hb2 (Nat.le_refl _) _ _).drew)

end Go.Proofs.Ytmjhapkhfelbpaa
