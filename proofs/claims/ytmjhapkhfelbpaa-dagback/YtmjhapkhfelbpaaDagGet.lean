/-
  Package dag: Get.
-/
import Derived.Test.YtmjhapkhfelbpaaDagRead
import Derived.Test.YtmjhapkhfelbpaaDagRight
namespace Go.Proofs.Ytmjhapkhfelbpaa
open Go.RowKit Plain Anylast
set_option linter.unusedVariables false

theorem Below.setTwo {n : Nat} {w w' : World} {h : Nat} (hb : Below n w w') (hh : n ≤ h) (u v : Value) : Below n w ((w'.setCell ⟨h, 0, none⟩ u).setCell ⟨h, 1, none⟩ v) :=
  (hb.setCell (p := ⟨h, 0, none⟩) hh u).setCell (p := ⟨h, 1, none⟩) hh v

/-- What a Get yields. -/
def Got2 (w : World) (s : ByteArray) (e : Ending) (w' : World) : Prop :=
  ∃ a c ts, e = .returned (.tuple #[.agg #[.string (gtN s), .slice a ts.length c], .int .i64 (gtE s)]) ∧ plainT ts = gtT s ∧ IsT w' a c ts ∧ From w.heap.size a ∧ Below w.heap.size w w'

theorem got2_none {w w' : World} {s : ByteArray} {r : Int} (hr : gtE s = r) (h0 : ¬ r = 0) (hb : Below w.heap.size w w') : Got2 w s (.returned (.tuple #[.agg #[.string ⟨#[]⟩, .slice none 0 0], .int .i64 r])) w' := by
  refine ⟨none, 0, [], ?_, ?_, isT_nil _ _ _ (Nat.zero_le _), from_nil _, hb⟩
  · unfold gtN; rw [hr, if_neg h0]; rfl
  · unfold gtT; rw [hr, if_neg h0]; rfl

set_option maxRecDepth 20000 in
set_option maxHeartbeats 4000000 in
theorem get16_any (s : ByteArray) (w : World) (hz : s.size ≤ maxLen) :
    Calls Try.prog 18 #[.string s] w fun e w' => Got2 w s e w' := by
  obtain ⟨W, hW⟩ : ∃ W, W = w.alloc (.cells #[.string ⟨#[]⟩, .slice none 0 0] 24) := ⟨_, rfl⟩
  have bX : BoxL W w.heap.size [.string ⟨#[]⟩, .slice none 0 0] := by rw [hW]; exact boxL_new _ [.string ⟨#[]⟩, .slice none 0 0] _ rfl
  have hB0 : Below w.heap.size w W := by rw [hW]; exact (Below.refl _ _).alloc (Nat.le_refl _) _
  have zW : W.heap.size = w.heap.size + 1 := by rw [hW]; simp
  have cR := read_any s W hz
  have hzz : s.size ≤ 9223372036854775807 := hz
  obtain ⟨nm, hnm⟩ : ∃ x, x = cutS s 0 := ⟨_, rfl⟩
  obtain ⟨PF, hPF⟩ : ∃ x, x = (dgF s).p := ⟨_, rfl⟩
  obtain ⟨EF, hEF⟩ : ∃ x, x = (dgF s).e := ⟨_, rfl⟩
  obtain ⟨TF, hTF⟩ : ∃ x, x = (dgF s).ts := ⟨_, rfl⟩
  obtain ⟨K, hK⟩ : ∃ x, x = TF.length := ⟨_, rfl⟩
  obtain ⟨r, hr⟩ : ∃ x, x = rightG nm TF := ⟨_, rfl⟩
  rw [← hnm, ← hPF, ← hEF, ← hTF, ← hK] at cR
  have HE : Hid (gtE s = if EF = 0 then (if PF = s.size then r else 4) else EF) := by show _ = _; unfold gtE; rw [hr, hnm, hTF, hPF, hEF]
  have HN : Hid (gtE s = 0 → gtN s = nm ∧ gtT s = TF) := fun h => by unfold gtN gtT; rw [if_pos h, if_pos h, hnm, hTF]; exact ⟨rfl, rfl⟩
  have HR : Hid (r = rightG nm TF) := hr
  have HK : Hid (K = TF.length) := hK
  have HB0 : Hid (Below w.heap.size w W) := hB0
  have HX : Hid (BoxL W w.heap.size [.string ⟨#[]⟩, .slice none 0 0]) := bX
  have HZW : Hid (W.heap.size = w.heap.size + 1) := zW
  clear hnm hPF hEF hTF hK hr hz bX hB0 zW
  have HBW : Hid (∀ (w1 : World) o, Below W.heap.size W w1 → BoxL (w1.alloc o) w.heap.size [.string ⟨#[]⟩, .slice none 0 0] ∧ Below w.heap.size w (w1.alloc o)) := fun w1 o hb => by
    have hs := hb.size
    have h1 := HZW.out
    exact ⟨(HX.out.below hb).alloc o, (Below.tr HB0.out hb).alloc (by omega) o⟩
  have HQ : Hid (∀ (w1 : World) o a c ts, plainT ts = TF → IsT w1 a c ts → Calls Try.prog 12 #[.agg #[.string nm, .slice a K c]] (w1.alloc o) fun e w' => e = .returned (.int .i64 r) ∧ Below (w1.alloc o).heap.size (w1.alloc o) w') := fun w1 o a c ts hp hT => by
    have := right16_any nm a c K ts (w1.alloc o) (by rw [HK.out, ← hp, plainT_length]) (hT.alloc o)
    rw [hp, ← HR.out] at this
    exact this
  by_cases h0 : EF = 0
  · obtain rfl := h0
    by_cases hP : PF = s.size
    · have hPE : (PF != (s.size : Int)) = false := by simp [hP]
      by_cases hr0 : r = 0
      · obtain rfl := hr0
        have HG : Hid (gtE s = 0) := by show _ = _; rw [HE.out, if_pos rfl, if_pos hP]
        clear hP HE
        go_enter Try.func18, Try.ntmps18
        go_wp2_with (first
          | (go_at_call 35; rw [← hW]; refine cR.mono ?_; rintro e w1 ⟨a, c, ts, rfl, hp, hT, hF, hNF, hb⟩; clear cR hW; obtain ⟨x, hb2⟩ := HBW.out w1 (.cells #[.string nm, .slice a K c] 24) hb; have x0 := x.1 0 _ rfl; have x1 := x.1 1 _ rfl; have y0 := x.2 0 (by simp); have y1 := x.2 1 (by simp); have z := (x.set 0 (.string ⟨#[]⟩)).set 1 (.slice none 0 0); have z0 := z.1 0 _ rfl; have z1 := z.1 1 _ rfl)
          | (go_at_call 12; clear x0 x1 y0 y1 z0 z1 z; refine (HQ.out w1 _ a c ts hp hT).mono ?_; rintro e w2 ⟨rfl, hb3⟩; have hb4 := Below.tr hb2 hb3; have x2 := x.below hb3; have x0 := x2.1 0 _ rfl; have x1 := x2.1 1 _ rfl; have y0 := x2.2 0 (by simp); have y1 := x2.2 1 (by simp); have d := (boxL_new w1 [.string nm, .slice a K c] 24 rfl).below hb3; have d0 := d.1 0 _ rfl; have d1 := d.1 1 _ rfl; have z := (x2.set 0 (.string nm)).set 1 (.slice a K c); have z0 := z.1 0 _ rfl; have z1 := z.1 1 _ rfl))
        clear x0 x1 y0 y1 d0 d1
        refine bodyPost_ret (v := .tuple #[.agg #[.string nm, .slice a K c], .int .i64 0]) (by simp [results, Try.results18, go_sem, z0, z1]) rfl ⟨a, c, ts, ?_, ?_, ?_, hF.mono (by rw [HZW.out]; omega), Below.setTwo hb4 (Nat.le_refl _) _ _⟩
        · rw [HG.out, (HN.out HG.out).1, ← plainT_length ts, hp, ← HK.out]
        · rw [(HN.out HG.out).2, hp]
        · have hT2 := (hT.alloc (.cells #[.string nm, .slice a K c] 24)).below hb3
          have tt : Turns (fun i => i = w.heap.size) w2 ((w2.setCell ⟨w.heap.size, 0, none⟩ (.string nm)).setCell ⟨w.heap.size, 1, none⟩ (.slice a K c)) := ((Turns.refl (fun i => i = w.heap.size) w2).setCell (p := ⟨w.heap.size, 0, none⟩) rfl _).setCell (p := ⟨w.heap.size, 1, none⟩) rfl _
          exact hT2.turns' tt (fun x hx e => by have := hF x hx; have := HZW.out; omega) (fun u hu hne x hx e => by have := hNF u hu hne x hx; have := HZW.out; omega)
      · have hrE : (r != 0) = true := by simpa using hr0
        have HG : Hid (gtE s = r) := by show _ = _; rw [HE.out, if_pos rfl, if_pos hP]
        clear hP HE
        go_enter Try.func18, Try.ntmps18
        go_wp2_with (first
          | (go_at_call 35; rw [← hW]; refine cR.mono ?_; rintro e w1 ⟨a, c, ts, rfl, hp, hT, hF, hNF, hb⟩; clear cR hW; obtain ⟨x, hb2⟩ := HBW.out w1 (.cells #[.string nm, .slice a K c] 24) hb; have x0 := x.1 0 _ rfl; have x1 := x.1 1 _ rfl; have y0 := x.2 0 (by simp); have y1 := x.2 1 (by simp); have z := (x.set 0 (.string ⟨#[]⟩)).set 1 (.slice none 0 0); have z0 := z.1 0 _ rfl; have z1 := z.1 1 _ rfl)
          | (go_at_call 12; clear x0 x1 y0 y1 z0 z1 z; refine (HQ.out w1 _ a c ts hp hT).mono ?_; rintro e w2 ⟨rfl, hb3⟩; have hb4 := Below.tr hb2 hb3; have x2 := x.below hb3; have x0 := x2.1 0 _ rfl; have x1 := x2.1 1 _ rfl; have y0 := x2.2 0 (by simp); have y1 := x2.2 1 (by simp); have d := (boxL_new w1 [.string nm, .slice a K c] 24 rfl).below hb3; have d0 := d.1 0 _ rfl; have d1 := d.1 1 _ rfl; have z := (x2.set 0 (.string ⟨#[]⟩)).set 1 (.slice none 0 0); have z0 := z.1 0 _ rfl; have z1 := z.1 1 _ rfl))
        clear x0 x1 y0 y1 d0 d1
        exact bodyPost_ret (v := .tuple #[.agg #[.string ⟨#[]⟩, .slice none 0 0], .int .i64 r]) (by simp [results, Try.results18, go_sem, z0, z1]) rfl (got2_none HG.out hr0 (Below.setTwo hb4 (Nat.le_refl _) _ _))
    · have hPE : (PF != (s.size : Int)) = true := by simpa using hP
      have HG : Hid (gtE s = 4) := by show _ = _; rw [HE.out, if_pos rfl, if_neg hP]
      clear hP HE
      go_enter Try.func18, Try.ntmps18
      go_wp2_with (go_at_call 35; rw [← hW]; refine cR.mono ?_; rintro e w1 ⟨a, c, ts, rfl, hp, hT, hF, hNF, hb⟩; clear cR hW; obtain ⟨x, hb2⟩ := HBW.out w1 (.cells #[.string nm, .slice a K c] 24) hb; have x0 := x.1 0 _ rfl; have x1 := x.1 1 _ rfl; have y0 := x.2 0 (by simp); have y1 := x.2 1 (by simp); have z := (x.set 0 (.string ⟨#[]⟩)).set 1 (.slice none 0 0); have z0 := z.1 0 _ rfl; have z1 := z.1 1 _ rfl)
      clear x0 x1 y0 y1
      exact bodyPost_ret (v := .tuple #[.agg #[.string ⟨#[]⟩, .slice none 0 0], .int .i64 4]) (by simp [results, Try.results18, go_sem, z0, z1]) rfl (got2_none HG.out (by decide) (Below.setTwo hb2 (Nat.le_refl _) _ _))
  · have hE : (EF != 0) = true := by simpa using h0
    have HG : Hid (gtE s = EF) := by show _ = _; rw [HE.out, if_neg h0]
    clear HE
    go_enter Try.func18, Try.ntmps18
    go_wp2_with (go_at_call 35; rw [← hW]; refine cR.mono ?_; rintro e w1 ⟨a, c, ts, rfl, hp, hT, hF, hNF, hb⟩; clear cR hW; obtain ⟨x, hb2⟩ := HBW.out w1 (.cells #[.string nm, .slice a K c] 24) hb; have x0 := x.1 0 _ rfl; have x1 := x.1 1 _ rfl; have y0 := x.2 0 (by simp); have y1 := x.2 1 (by simp); have z := (x.set 0 (.string ⟨#[]⟩)).set 1 (.slice none 0 0); have z0 := z.1 0 _ rfl; have z1 := z.1 1 _ rfl)
    clear x0 x1 y0 y1
    exact bodyPost_ret (v := .tuple #[.agg #[.string ⟨#[]⟩, .slice none 0 0], .int .i64 EF]) (by simp [results, Try.results18, go_sem, z0, z1]) rfl (got2_none HG.out h0 (Below.setTwo hb2 (Nat.le_refl _) _ _))

end Go.Proofs.Ytmjhapkhfelbpaa
