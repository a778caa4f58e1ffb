/-
  A block's bytes in memory: package device's whole, cut, Sector and Mix, for every text.
-/
import Derived.Test.YtcdcnonkoffbhaaDevTrim
namespace Go.Proofs.Ytcdcnonkoffbhaa
open Go.RowKit Plain
set_option linter.unusedVariables false
set_option maxRecDepth 20000

theorem heap_last (w : World) (o : Obj) : (w.alloc o).heap[w.heap.size]? = some o := by
  show (w.heap.push o)[w.heap.size]? = some o
  simp

theorem i64_and1 (n : Int) : bits .and .i64 n 1 = n % 2 := by
  have h1 : (BitVec.ofInt 64 1).toNat = 2 ^ 1 - 1 := by decide
  have key : (BitVec.ofInt 64 n &&& BitVec.ofInt 64 1).toNat = (n % ((2 ^ 64 : Nat) : Int)).toNat % 2 ^ 1 := by
    rw [BitVec.toNat_and, BitVec.toNat_ofInt, h1, Nat.and_two_pow_sub_one_eq_mod]
  show IntKind.i64.wrap ((BitVec.ofInt 64 n &&& BitVec.ofInt 64 1).toNat : Nat) = n % 2
  rw [key, IntKind.wrap_i64]
  omega

theorem bit_eq (m : Int) (i : Nat) : (bits .and .i64 (m / 2 ^ i) 1 == 1) = bitOn m i := by
  rw [i64_and1]
  unfold bitOn
  generalize m / 2 ^ i = q
  by_cases h : q % 2 = 0
  · rw [h]; rfl
  · rw [show q % 2 = 1 by omega]; rfl

theorem size_mk (l : List UInt8) : (⟨l.toArray⟩ : ByteArray).size = l.length := rfl

/-- A row that holds just these bytes. -/
def RowB (w : World) (g : Nat) (l : List UInt8) : Prop := w.heap[g]? = some (.cells ((l.map cellOf).toArray) 5 (0, 0))

theorem RowB.cell {w : World} {g : Nat} {l : List UInt8} (h : RowB w g l) {j : Nat} {x : UInt8} (hx : l[j]? = some x) : w.cell? ⟨g, j, none⟩ = some (cellOf x) := by
  unfold RowB at h
  simp [World.cell?, h, hx]

theorem RowB.below {w w' : World} {g : Nat} {l : List UInt8} (h : RowB w g l) (hb : Below w.heap.size w w') : RowB w' g l := by
  unfold RowB at h ⊢
  rw [hb.block g (Array.getElem?_eq_some_iff.1 h).1]
  exact h

theorem RowB.lt {w : World} {g : Nat} {l : List UInt8} (h : RowB w g l) : g < w.heap.size := (Array.getElem?_eq_some_iff.1 h).1

/-- All bytes of a block. -/
def wholeL (s : ByteArray) : List UInt8 := (List.range 4096).map (byteAt s)

theorem wholeL_length (s : ByteArray) : (wholeL s).length = 4096 := by simp [wholeL]

theorem wholeL_get (s : ByteArray) (j : Nat) (h : j < 4096) : (wholeL s)[j]? = some (byteAt s j) := by simp [wholeL, h]

theorem splice_whole {α : Type} (z : α) (f : UInt8 → α) (l : List UInt8) (N : Nat) (g : Nat → UInt8) (hz : f 0 = z) (hg : ∀ j, g j = l[j]?.getD 0) :
    splice (List.replicate N z) 0 ((l.take N).map f) = ((List.range N).map g).map f := by
  unfold splice
  rw [List.take_zero, List.nil_append, Nat.zero_add]
  apply List.ext_getElem?
  intro j
  by_cases hj : j < N
  · rw [List.getElem?_map, List.getElem?_map, List.getElem?_range hj, List.getElem?_append]
    simp only [List.length_map, List.length_take, Option.map_some]
    split
    · rename_i h
      rw [List.getElem?_map, List.getElem?_take_of_lt hj, hg]
      have h2 : j < l.length := by omega
      rw [List.getElem?_eq_getElem h2]; rfl
    · rename_i h
      rw [hg, List.getElem?_drop, List.getElem?_replicate, if_pos (by omega), List.getElem?_eq_none (by omega : l.length ≤ j)]
      simp [hz]
  · rw [List.getElem?_eq_none (by simp; omega), List.getElem?_eq_none (by simp; omega)]

theorem run_copy_text (w : World) (ty : TypeId) (g N : Nat) (s : ByteArray) (hg : w.heap[g]? = some (.cells (List.replicate N (Value.int .u8 0)).toArray 5 (0, 0))) :
    ∃ (n : Nat) (w' : World), (Builtin.copy_ #[59, 9] ty #[.slice (some ⟨g, 0, none⟩) N N, .string s]).run Try.prog w = .ok (goInt n) w' ∧ RowB w' g ((List.range N).map (byteAt s)) ∧ ∀ B, B ≤ g → Below B w w' := by
  have hl : s.data.toList.length = s.size := rfl
  have hlen : ((s.data.toList.take N).map cellOf).length = Nat.min s.size N := by
    rw [List.length_map, List.length_take, hl]
    exact Nat.min_comm _ _
  obtain ⟨R, hR, hst⟩ : ∃ R : Array Value, R = (splice (List.replicate N (Value.int .u8 0)) 0 ((s.data.toList.take N).map cellOf)).toArray ∧ (storeCells ⟨g, 0, none⟩ ((s.data.toList.take N).map cellOf) 0).run Try.prog w = .ok () (w.setRow g R) := by
    refine ⟨_, rfl, ?_⟩
    have hst := run_storeCells_at Try.prog g 0 5 ((s.data.toList.take N).map cellOf) 0 _ w hg (by rw [hlen]; simp; exact Nat.min_le_right _ _) (by
      intro v hv
      obtain ⟨x, _, rfl⟩ := List.mem_map.1 hv
      rfl)
    rw [hst]
    unfold splice
    simp
  refine ⟨Nat.min s.size N, w.setRow g R, ?_, ?_, fun B hB => below_setRow (Below.refl _ _) hB _⟩
  · have htk : List.take (Nat.min s.size N) (List.map (fun b : UInt8 => Value.int IntKind.u8 (b.toNat : Int)) s.data.toList) = (s.data.toList.take N).map cellOf := by
      rw [← List.map_take]
      show List.map cellOf _ = _
      congr 1
      have e : Nat.min s.size N = min N s.data.toList.length := by rw [hl]; exact Nat.min_comm _ _
      rw [e, ← List.take_eq_take_min]
    have hinfo := Try.info5
    cases hq : Try.prog.info? 5 with
    | none => rw [hq] at hinfo; cases hinfo
    | some i =>
      simp [Builtin.copy_, run_underlying Try.underlying59, Builtin.lenOf, Builtin.firstCells, Go.sizeOf, typeInfo, hq]
      rw [htk, hst]
      simp only [Result.andThen]
  · unfold RowB
    rw [setRow_heap w g _ _ 5 _ hg, hR, ← splice_whole (Value.int .u8 0) cellOf s.data.toList N (byteAt s) rfl (fun j => rfl)]

set_option maxHeartbeats 400000 in
theorem whole_any (s : ByteArray) (w : World) (hs : s.size ≤ maxLen) :
    Calls Try.prog 64 #[.string s] w fun e w' => e = .returned (.slice (some ⟨w.heap.size, 0, none⟩) 4096 4096) ∧ RowB w' w.heap.size (wholeL s) ∧ Below w.heap.size w w' := by
  obtain ⟨Z, hmk, hZ⟩ : ∃ Z : Array Value, (∀ W : World, (Instr.makeSlice 59 (.int .i64 4096) (.int .i64 4096)).run Try.prog W = .ok (.slice (some ⟨W.heap.size, 0, none⟩) 4096 4096) (W.alloc (.cells Z 5))) ∧ Hid (Z = (List.replicate 4096 (Value.int .u8 0)).toArray) :=
    ⟨madeCells #[.int .u8 0] 4096, fun W => run_make_row' (P := Try.prog) 59 5 (.int .u8 0) 1 Try.underlying59 Try.info5 rfl .i64 .i64 4096 (by omega) (by omega) W, made_one _ 4096⟩
  obtain ⟨n, w1, hcp, hrow, hbel⟩ := run_copy_text (w.alloc (.cells Z 5)) 3 w.heap.size 4096 s (by rw [hZ.out, heap_last])
  have hrow' : Hid _ := hrow
  clear hrow
  have hB : Below w.heap.size w w1 := ((Below.refl _ _).alloc (Nat.le_refl _) _).trans (hbel _ (Nat.le_refl _))
  clear hbel hZ
  go_enter Try.func64, Try.ntmps64
  go_wp2
  go_ret
  exact ⟨rfl, hrow'.out, hB⟩

set_option maxHeartbeats 400000 in
theorem devCut_any (g i : Nat) (w : World) (hi : i < 8) :
    Calls Try.prog 65 #[.slice (some ⟨g, 0, none⟩) 4096 4096, .int .i64 i] w fun e w' => e = .returned (.slice (some ⟨g, i * 512, none⟩) 512 512) ∧ w = w' := by
  go_enter Try.func65, Try.ntmps65
  go_wp2
  go_ret
  have e : i * 512 + 512 - i * 512 = 512 := by omega
  rw [e]
  exact ⟨rfl, rfl⟩

/-- A stretch of a row's bytes, as a text. -/
theorem conv_part (w : World) (g o n cap : Nat) (l m : List UInt8) (h : RowB w g l) (hl : m.length = n) (hm : ∀ j, j < n → l[o + j]? = m[j]?) :
    (convert 59 9 (.slice (some ⟨g, o, none⟩) n cap)).run Try.prog w = .ok (.string ⟨m.toArray⟩) w := by
  subst hl
  refine run_convert_bytes_back (P := Try.prog) _ 59 9 5 ⟨g, o, none⟩ cap m Try.underlying59 Try.underlying5 Try.underlying9 fun j hj => ?_
  rw [at_add]
  exact h.cell ((hm j hj).trans (List.getElem?_eq_getElem hj))

/-- What is mixed of the first so many bytes. -/
def mixP (o n : ByteArray) (m : Int) (t : Nat) : List UInt8 := (List.range 4096).map fun j => if j < t then mixB o n m j else byteAt o j

theorem mixP_length (o n : ByteArray) (m : Int) (t : Nat) : (mixP o n m t).length = 4096 := by simp [mixP]

theorem mixP_get (o n : ByteArray) (m : Int) (t j : Nat) (h : j < 4096) : (mixP o n m t)[j]? = some (if j < t then mixB o n m j else byteAt o j) := by simp [mixP, h]

theorem mixP_zero (o n : ByteArray) (m : Int) : mixP o n m 0 = wholeL o := by
  unfold mixP wholeL
  apply List.map_congr_left
  intro j _
  rw [if_neg (by omega)]

theorem mixP_full (o n : ByteArray) (m : Int) (t : Nat) (ht : 4096 ≤ t) : mixP o n m t = mixL o n m 4096 := by
  unfold mixP mixL
  apply List.map_congr_left
  intro j hj
  rw [if_pos (by have := List.mem_range.1 hj; omega)]

theorem mixP_off (o n : ByteArray) (m : Int) (i t t' : Nat) (ht : t = i * 512) (ht' : t' = t + 512) (h : bitOn m i = false) : mixP o n m t' = mixP o n m t := by
  have hd : ∀ j, t ≤ j → j < t' → j / 512 = i := by intro j h1 h2; omega
  clear ht
  unfold mixP
  apply List.map_congr_left
  intro j hj
  by_cases h1 : j < t
  · have h2 : j < t' := by omega
    rw [if_pos h1, if_pos h2]
  · rw [if_neg h1]
    split
    · rename_i h2
      unfold mixB
      rw [hd j (by omega) h2, h]; rfl
    · rfl

theorem mixP_on (o n : ByteArray) (m : Int) (i t t' : Nat) (hi : i < 8) (ht : t = i * 512) (ht' : t' = t + 512) (h : bitOn m i = true) :
    splice ((mixP o n m t).map cellOf) t ((((wholeL n).drop t).take 512).map cellOf) = (mixP o n m t').map cellOf := by
  have hd : ∀ j, t ≤ j → j < t' → j / 512 = i := by intro j h1 h2; omega
  have hle : t' ≤ 4096 := by omega
  clear ht
  have hl : ((((wholeL n).drop t).take 512).map cellOf).length = 512 := by
    rw [List.length_map, List.length_take, List.length_drop, wholeL_length]; omega
  have hlt : (List.take t (List.map cellOf (mixP o n m t))).length = t := by rw [List.length_take, List.length_map, mixP_length]; omega
  unfold splice
  rw [hl]
  apply List.ext_getElem?
  intro j
  by_cases hj : j < 4096
  · rw [List.getElem?_map (l := mixP o n m t'), mixP_get _ _ _ _ _ hj]
    by_cases h1 : j < t
    · have h2 : j < t' := by omega
      rw [List.getElem?_append_left (by omega), List.getElem?_take_of_lt h1, List.getElem?_map, mixP_get _ _ _ _ _ hj, if_pos h1, if_pos h2]
    · rw [List.getElem?_append_right (by omega), hlt]
      by_cases h2 : j < t'
      · rw [List.getElem?_append_left (by omega), List.getElem?_map, List.getElem?_take_of_lt (by omega), List.getElem?_drop, show t + (j - t) = j by omega, wholeL_get n j hj, if_pos h2]
        unfold mixB
        rw [hd j (by omega) h2, h]; rfl
      · rw [List.getElem?_append_right (by omega), hl, List.getElem?_drop, show t + 512 + (j - t - 512) = j by omega, List.getElem?_map, mixP_get _ _ _ _ _ hj, if_neg h1, if_neg h2]
  · rw [List.getElem?_eq_none (by simp only [List.length_append, List.length_take, List.length_drop, hl, List.length_map, mixP_length]; omega), List.getElem?_eq_none (by rw [List.length_map, mixP_length]; omega)]

theorem copy_sector (w : World) (ty : TypeId) (g1 g2 : Nat) (o n : ByteArray) (m : Int) (i : Nat) (hi : i < 8) (hb : bitOn m i = true) (t t' : Nat) (ht : t = i * 512) (ht' : t' = t + 512) (h1 : RowB w g1 (mixP o n m t)) (h2 : RowB w g2 (wholeL n)) (hne : g1 ≠ g2) :
    ∃ w', (Builtin.copy_ #[59, 59] ty #[.slice (some ⟨g1, t, none⟩) 512 512, .slice (some ⟨g2, t, none⟩) 512 512]).run Try.prog w = .ok (goInt 512) w' ∧ RowB w' g1 (mixP o n m t') ∧ RowB w' g2 (wholeL n) ∧ ∀ B, B ≤ g1 → Below B w w' := by
  have hl : ((((wholeL n).drop t).take 512).map cellOf).length = 512 := by
    rw [List.length_map, List.length_take, List.length_drop, wholeL_length]; omega
  have hsz : (Try.prog.info? 5).map (·.size) = some 1 := by kernel_rfl
  have hc := run_copy_row Try.prog w 59 59 ty 5 g1 t 512 512 ⟨g2, t, none⟩ 512 512 _ 5 ((((wholeL n).drop t).take 512).map cellOf) Try.underlying59 hsz h1 (by rw [hl]; rfl)
    (by
      intro j v hv
      rw [at_add]
      rw [List.getElem?_map, List.getElem?_take] at hv
      split at hv
      · rw [List.getElem?_drop, wholeL_get n _ (by omega)] at hv
        rw [h2.cell (wholeL_get n _ (by omega))]
        exact hv
      · cases hv)
    (by rw [hl]; simp [mixP_length]; omega)
    (by
      intro v hv
      obtain ⟨x, _, rfl⟩ := List.mem_map.1 hv
      rfl)
  rw [hl] at hc
  refine ⟨_, hc, ?_, ?_, fun B hB => below_setRow (Below.refl _ _) hB _⟩
  · unfold RowB
    rw [setRow_heap w g1 _ _ 5 _ h1, ← mixP_on o n m i t t' hi ht ht' hb]
    unfold splice
    rw [hl]
    simp
  · unfold RowB
    rw [setRow_other w g1 g2 _ (fun h => hne h.symm)]
    exact h2

set_option maxHeartbeats 400000 in
theorem mix_any (o n : ByteArray) (m : Int) (w : World) (ho : o.size ≤ maxLen) (hn : n.size ≤ maxLen) :
    Calls Try.prog 42 #[.string o, .string n, .int .i64 m] w fun e w' => e = .returned (.string (mixS o n m)) ∧ Below w.heap.size w w' := by
  have tok : True := trivial
  obtain ⟨x, hx, hxs⟩ : ∃ x : ByteArray, Hid (x = (⟨(mixL o n m 4096).toArray⟩ : ByteArray)) ∧ x.size ≤ maxLen := by
    refine ⟨_, rfl, ?_⟩
    rw [size_mk, mixL_length]; unfold maxLen; omega
  have e : Hid (mixS o n m = trimS x) := by show mixS o n m = _; unfold mixS; rw [hx.out]
  go_enter Try.func42, Try.ntmps42
  go_wp2_with (first
    | (go_at_call 64; have _t := tok; clear tok; refine (whole_any o _ ho).mono ?_; rintro e w1 ⟨rfl, hr1, hB1⟩)
    | (go_at_call 64; refine (whole_any n _ hn).mono ?_; rintro e w2 ⟨rfl, hr2, hB2⟩))
  have hr1' : RowB w2 w.heap.size (wholeL o) := hr1.below hB2
  have hBw : Below w.heap.size w w2 := Below.tr hB1 hB2
  have hne : w.heap.size ≠ w1.heap.size := by have := hr1.lt; omega
  go_loopw [14] (fun v wr => ∃ i : Nat, i ≤ 8 ∧ v = .int .i64 i ∧ RowB wr w.heap.size (mixP o n m (i * 512)) ∧ RowB wr w1.heap.size (wholeL n) ∧ Below w.heap.size w wr) (fun v _ => 8 - (intOf v).toNat)
  case atStart => exact ⟨0, by omega, rfl, by rw [Nat.zero_mul, mixP_zero]; exact hr1', hr2, hBw⟩
  case round =>
    clear hr1 hr2 hr1' hB1 hB2 hBw
    obtain ⟨i, hi, rfl, h1, h2, hbel⟩ := hrel
    by_cases hlt : i < 8
    · by_cases hb : bitOn m i = true
      · obtain ⟨w', hcp, h1', h2', hB'⟩ := copy_sector wr 3 w.heap.size w1.heap.size o n m i hlt hb (i * 512) ((i + 1) * 512) rfl (by omega) h1 h2 hne
        have H1 : Hid _ := h1'
        have H2 : Hid _ := h2'
        have hBel : Below w.heap.size w w' := hbel.trans (hB' _ (Nat.le_refl _))
        have hbit := bit_eq m i
        rw [hb] at hbit
        clear h1 h2 h1' h2' hB' hbel hb
        go_wp2_with (go_at_call 65; refine (devCut_any _ i _ hlt).mono ?_; rintro e w2 ⟨rfl, rfl⟩)
        go_roundw
        case rel => exact ⟨i + 1, by omega, by go_num, H1.out, H2.out, hBel⟩
        case measure => simp [intOf]; omega
      · have hb' : bitOn m i = false := by simpa using hb
        have H1 : Hid (RowB wr w.heap.size (mixP o n m ((i + 1) * 512))) := by
          show RowB wr _ _
          rw [mixP_off o n m i (i * 512) ((i + 1) * 512) rfl (by omega) hb']; exact h1
        have H2 : Hid _ := h2
        have hbit := bit_eq m i
        rw [hb'] at hbit
        clear h1 h2 hb hb'
        go_wp2
        go_roundw
        case rel => exact ⟨i + 1, by omega, by go_num, H1.out, H2.out, hbel⟩
        case measure => simp [intOf]; omega
    · obtain rfl : i = 8 := by omega
      rw [mixP_full _ _ _ _ (by omega)] at h1
      have hcv : (convert 59 9 (.slice (some ⟨w.heap.size, 0, none⟩) 4096 4096)).run Try.prog wr = .ok (.string x) wr := by
        rw [hx.out]
        exact conv_part wr w.heap.size 0 4096 4096 _ _ h1 (mixL_length _ _ _ _) fun j _ => by rw [Nat.zero_add]
      clear h1 h2
      go_wp2_with (go_at_call 46; refine (trim_any x _ hxs).mono ?_; rintro e w3 ⟨rfl, rfl⟩)
      go_ret
      exact ⟨ret_str e.out.symm, hbel⟩

end Go.Proofs.Ytcdcnonkoffbhaa
