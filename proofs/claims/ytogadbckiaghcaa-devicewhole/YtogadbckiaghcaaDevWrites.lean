/-
  Rows of writes that a call itself owns; the library's slices.Grow and slices.Concat at them.
-/
import Derived.Test.YtogadbckiaghcaaDevFlush
import Derived.Lib.AppendZeros
import Derived.Lib.AppendZerosOnto
import Derived.RangeFuncRecord
namespace Go.Proofs.Ytogadbckiaghcaa
open Go.RowKit Plain
set_option linter.unusedVariables false

theorem Try.info50 : (Try.prog.info? 50).map (fun i => (i.zero, i.size, i.bytes)) = some (some (.agg #[.int .i64 0, .string ⟨#[]⟩]), 2, 24) := by kernel_rfl

/-- Writes as they lie in cells. -/
def cellsP (ps : List (Int × ByteArray)) : List Value := ps.flatMap fun p => [.int .i64 p.1, .string p.2]

theorem cellsP_cons (p : Int × ByteArray) (ps : List (Int × ByteArray)) : cellsP (p :: ps) = .int .i64 p.1 :: .string p.2 :: cellsP ps := rfl
theorem cellsP_append (ps qs : List (Int × ByteArray)) : cellsP (ps ++ qs) = cellsP ps ++ cellsP qs := by simp [cellsP]

theorem cellsP_length (ps : List (Int × ByteArray)) : (cellsP ps).length = ps.length * 2 := by
  induction ps with
  | nil => rfl
  | cons p ps ih => rw [cellsP_cons, List.length_cons, List.length_cons, ih, List.length_cons]; omega

theorem cellsP_at {ps : List (Int × ByteArray)} {i : Nat} {p : Int × ByteArray} (h : ps[i]? = some p) : (cellsP ps)[i * 2]? = some (.int .i64 p.1) ∧ (cellsP ps)[i * 2 + 1]? = some (.string p.2) := by
  induction ps generalizing i with
  | nil => simp at h
  | cons q ps ih =>
    rw [cellsP_cons]
    cases i with
    | zero =>
      simp at h
      subst h
      exact ⟨rfl, rfl⟩
    | succ i =>
      rw [List.getElem?_cons_succ] at h
      have := ih h
      rw [show (i + 1) * 2 = i * 2 + 1 + 1 by omega]
      exact this

theorem cellsP_get {ps : List (Int × ByteArray)} {j : Nat} {u : Value} (h : (cellsP ps)[j]? = some u) : ∃ i p, ps[i]? = some p ∧ (j = i * 2 ∧ u = .int .i64 p.1 ∨ j = i * 2 + 1 ∧ u = .string p.2) := by
  induction ps generalizing j with
  | nil => simp [cellsP] at h
  | cons q ps ih =>
    rw [cellsP_cons] at h
    match j, h with
    | 0, h => exact ⟨0, q, rfl, .inl ⟨rfl, by simpa using h.symm⟩⟩
    | 1, h => exact ⟨0, q, rfl, .inr ⟨rfl, by simpa using h.symm⟩⟩
    | j + 2, h =>
      obtain ⟨i, p, hp, he⟩ := ih (j := j) (by simpa using h)
      refine ⟨i + 1, p, by simpa using hp, ?_⟩
      rcases he with ⟨rfl, rfl⟩ | ⟨rfl, rfl⟩
      · exact .inl ⟨by omega, rfl⟩
      · exact .inr ⟨by omega, rfl⟩

theorem cellsP_one (ps : List (Int × ByteArray)) : ∀ u ∈ cellsP ps, u.oneCell' = true := by
  intro u hu
  obtain ⟨j, hj⟩ := List.mem_iff_getElem?.1 hu
  obtain ⟨i, p, _, ⟨_, rfl⟩ | ⟨_, rfl⟩⟩ := cellsP_get hj <;> rfl

/-- A write that a machine bears. -/
def okP (p : Int × ByteArray) : Prop := p.2.size ≤ maxLen ∧ -9223372036854775808 ≤ p.1 ∧ p.1 ≤ 9223372036854775807

theorem isP_okP {w : World} {a : Option Addr} {c : Nat} {ps : List (Int × ByteArray)} (h : IsP w a c ps) : ∀ p ∈ ps, okP p := by
  intro p hp
  obtain ⟨j, hj⟩ := List.mem_iff_getElem?.1 hp
  obtain ⟨b, o, _, _, _, _, hr⟩ := h.2.2 j p hj
  exact hr

theorem isP_src {w : World} {ad : Addr} {c : Nat} {ps : List (Int × ByteArray)} (h : IsP w (some ad) c ps) : ∀ j u, (cellsP ps)[j]? = some u → w.cell? (ad.add j) = some u := by
  intro j u hj
  obtain ⟨i, p, hp, he⟩ := cellsP_get hj
  obtain ⟨b', o', ha, _, hc, hc2, _⟩ := h.2.2 i p hp
  cases ha
  rw [at_add]
  rcases he with ⟨rfl, rfl⟩ | ⟨rfl, rfl⟩
  · exact hc
  · exact hc2

theorem owned_isP {w : World} {B g n cap : Nat} {ps : List (Int × ByteArray)} (h : w.ownsRow B 50 2 (.slice (some ⟨g, 0, none⟩) n cap) n (cellsP ps)) (hn : ps.length = n) (hk : ∀ p ∈ ps, okP p) : IsP w (some ⟨g, 0, none⟩) cap ps := by
  have hlt := (h.lt g rfl).2
  have hcell := h.cellAt
  obtain ⟨_, hr⟩ := h
  rcases hr with ⟨h', _⟩ | ⟨g', cap', cur, h', _, hg, hnc, hcm, _⟩
  · cases h'
  · cases h'
    refine ⟨by omega, hcm, fun j p hp => ⟨g, 0, rfl, hlt, ?_, ?_, hk p (List.mem_of_getElem? hp)⟩⟩
    · have hj := (List.getElem?_eq_some_iff.1 hp).1
      rw [Nat.zero_add, hcell (j * 2) (by omega)]
      exact (cellsP_at hp).1
    · have hj := (List.getElem?_eq_some_iff.1 hp).1
      rw [Nat.zero_add, hcell (j * 2 + 1) (by omega)]
      exact (cellsP_at hp).2

theorem isP_set {w : World} {g h i c : Nat} {ps : List (Int × ByteArray)} (v : Value) (hr : IsP w (some ⟨g, 0, none⟩) c ps) (hn : g ≠ h) : IsP (w.setCell ⟨h, i, none⟩ v) (some ⟨g, 0, none⟩) c ps := by
  refine ⟨hr.1, hr.2.1, fun j p hp => ?_⟩
  obtain ⟨b, o, ha, hlt, hc, hc2, hk⟩ := hr.2.2 j p hp
  cases ha
  exact ⟨g, 0, rfl, by simpa using hlt, by rw [World.cell?_setCell_other _ _ _ _ (fun hh => hn (by cases hh; rfl))]; exact hc, by rw [World.cell?_setCell_other _ _ _ _ (fun hh => hn (by cases hh; rfl))]; exact hc2, hk⟩

theorem run_append_none {w : World} (base : Nat) (t ty e : TypeId) (i : TypeInfo) (size m c : Nat) (hm : m = 0) (ht : Try.prog.underlying t = some (.slice e)) (hi : Try.prog.info? e = some i)
    (v : Value) (n : Nat) (xs : List Value) (hown : w.ownsRow base e size v n xs) :
    (Builtin.append_ #[t, t] ty #[v, .slice none m c]).run Try.prog w = .ok v w := by
  subst hm
  rcases hown.2 with ⟨rfl, rfl⟩ | ⟨g, cap, cur, rfl, _, _, hnc, _⟩
  · simp [Builtin.append_, run_underlying ht, sizeOf, typeInfo, hi, Builtin.lenOf, Builtin.firstCells]
  · simp [Builtin.append_, run_underlying ht, sizeOf, typeInfo, hi, Builtin.lenOf, Builtin.firstCells, hnc, storeCells]

set_option maxHeartbeats 2000000 in
set_option maxRecDepth 100000 in
theorem grow_any (n : Nat) (w : World) (h1 : 1 ≤ n) (h2 : n ≤ 2048) :
    Calls Try.prog 39 #[.slice none 0 0, .int .i64 n] w fun e w' => ∃ cap, e = .returned (.slice (some ⟨w.heap.size, 0, none⟩) 0 cap) ∧ w'.ownsRow w.heap.size 50 2 (.slice (some ⟨w.heap.size, 0, none⟩) 0 cap) 0 [] ∧ Below w.heap.size w w' := by
  obtain ⟨i0, hi, hz0, hz1, hz2⟩ := info_parts Try.info50
  obtain ⟨G, hG⟩ : ∃ G, G = grownCap w n 0 50 := ⟨_, rfl⟩
  obtain ⟨Z, hZ⟩ : ∃ Z, Z = Builtin.zeroCells (Value.agg #[.int .i64 0, .string ⟨#[]⟩]).cells n ++ Builtin.zeroCells (Value.agg #[.int .i64 0, .string ⟨#[]⟩]).cells (G - n) := ⟨_, rfl⟩
  have hGn : n ≤ G := by rw [hG]; exact grownCap_ge w _ _ _
  have hGm : G ≤ maxLen := by rw [hG]; exact grownCap_le_maxLen w n 0 _ (by unfold maxLen; omega)
  have hZs : Hid (Z.size = G * 2) := by
    show _ = _
    rw [hZ, Array.size_append]
    have hc : (Value.agg #[.int .i64 0, .string ⟨#[]⟩]).cells.size = 2 := by rfl
    simp only [Builtin.zeroCells, Array.size_map, Array.size_range, hc]
    omega
  have hrz : ∀ ty, (Builtin.append_ #[23, 3] ty #[.slice none 0 0, .int .i64 n]).run Try.prog w = .ok (.slice (some ⟨w.heap.size, 0, none⟩) n G) (w.drew.alloc (.cells Z 50)) := fun ty => by
    have := Lib.run_append_nil_zeros (P := Try.prog) w 23 3 ty 50 i0 _ .i64 .i64 Try.underlying23 Try.underlying3 hi hz0 n (by omega) (by omega) (by omega) (by rw [hz2]; omega)
    rw [← hG, ← hZ] at this
    exact this
  have hG63 : G ≤ 9223372036854775807 := hGm
  have h1' : (1 : Int) ≤ n := by omega
  have h2' : (n : Int) ≤ 2048 := by omega
  clear hZ hG
  go_enter Try.func39, Try.ntmps39
  go_wp2_with (at_builtin; refine Lib.wpList_append_run _ rfl _ _ _ _ rfl _ _ rfl rfl _ _ (hrz _) ?_)
  all_goals (go_ret; exact ⟨G, rfl, ⟨rfl, .inr ⟨w.heap.size, G, Z, rfl, Nat.le_refl _, World.alloc_heap_new w.drew _, Nat.zero_le _, hGm, hZs.out, rfl⟩⟩, (Below.refl _ _).drew.alloc (Nat.le_refl _) _⟩)

set_option maxHeartbeats 4000000 in
set_option maxRecDepth 100000 in
theorem concat_any (a' : Option Addr) (c' g1 g2 : Nat) (ps : List (Int × ByteArray)) (q : Int × ByteArray) (w : World) (hP : IsP w a' c' ps) (hQ : IsP w (some ⟨g1, 0, none⟩) 1 [q]) (hl : ps.length ≤ 2047)
    (s0 : w.cell? ⟨g2, 0, none⟩ = some (.slice a' ps.length c')) (s1 : w.cell? ⟨g2, 1, none⟩ = some (.slice (some ⟨g1, 0, none⟩) 1 1)) :
    Calls Try.prog 32 #[.slice (some ⟨g2, 0, none⟩) 2 2] w fun e w' => ∃ g cap, e = .returned (.slice (some ⟨g, 0, none⟩) (ps.length + 1) cap) ∧ w.heap.size ≤ g ∧ IsP w' (some ⟨g, 0, none⟩) cap (ps ++ [q]) ∧ Below w.heap.size w w' := by
  obtain ⟨i0, hi, hz0, hz1, hz2⟩ := info_parts Try.info50
  have HP : Hid (IsP w a' c' ps) := hP
  have HQ : Hid (IsP w (some ⟨g1, 0, none⟩) 1 [q]) := hQ
  have HK : Hid (∀ p ∈ ps ++ [q], okP p) := by
    intro p hp
    rcases List.mem_append.1 hp with h | h
    · exact isP_okP hP p h
    · exact isP_okP hQ p h
  obtain ⟨n, hn⟩ : ∃ n, n = ps.length := ⟨_, rfl⟩
  have Hn : Hid (ps.length = n) := hn.symm
  rw [← hn] at hl s0 ⊢
  clear hP hQ hn
  have hl' : (n : Int) ≤ 2047 := by omega
  go_enter Try.func32, Try.ntmps32
  go_wp2
  go_loop [3, 11] (fun s v => (v = .int .i64 0 ∧ s = .int .i64 0) ∨ (v = .int .i64 1 ∧ s = .int .i64 n) ∨ (v = .int .i64 2 ∧ s = .int .i64 ((n : Int) + 1))) (fun _ v => 2 - (intOf v).toNat)
  case atStart => exact .inl ⟨rfl, rfl⟩
  case round =>
    rcases hrel with ⟨rfl, rfl⟩ | ⟨rfl, rfl⟩ | ⟨rfl, rfl⟩
    · go_wp2
      go_round
      case rel => exact .inr (.inl ⟨by go_num, by go_num⟩)
      case measure => simp [intOf]
    · go_wp2
      go_round
      case rel => exact .inr (.inr ⟨by go_num, by go_num⟩)
      case measure => simp [intOf]
    · have c1 := grow_any (n + 1) w (by omega) (by omega)
      rw [show ((n + 1 : Nat) : Int) = (n : Int) + 1 by omega] at c1
      go_wp2_with (go_at_call 39; refine c1.mono ?_; rintro e w1 ⟨cap, rfl, hown, hb⟩)
      go_loopw [6, 27] (fun v i wr => ∃ k xs, ((i = .int .i64 0 ∧ k = 0 ∧ xs = []) ∨ (i = .int .i64 1 ∧ k = n ∧ xs = cellsP ps) ∨ (i = .int .i64 2 ∧ k = n + 1 ∧ xs = cellsP (ps ++ [q]))) ∧ (∃ g cap, v = .slice (some ⟨g, 0, none⟩) k cap) ∧ wr.ownsRow w.heap.size 50 2 v k xs ∧ Below w.heap.size w wr) (fun _ v _ => 2 - (intOf v).toNat)
      case atStart => exact ⟨0, [], .inl ⟨rfl, rfl, rfl⟩, ⟨_, _, rfl⟩, hown, hb⟩
      case round =>
        obtain ⟨k, xs, hc, ⟨g, cp, rfl⟩, hown2, hbel⟩ := hrel
        clear hown hb c1
        rcases hc with ⟨rfl, rfl, rfl⟩ | ⟨rfl, rfl, rfl⟩ | ⟨rfl, rfl, rfl⟩
        · replace s0 := cell_below hbel s0
          have HPr : Hid (IsP wr a' c' ps) := HP.out.below hbel
          have hgw := (hown2.lt g rfl).1
          cases a' with
          | none =>
            have hn0 : n = 0 := by
              rcases Nat.eq_zero_or_pos ps.length with h | h
              · rw [← Hn.out]; exact h
              · obtain ⟨b, o, hh⟩ := HP.out.some h
                cases hh
            have hrn := fun ty => run_append_none w.heap.size 23 ty 50 i0 2 n c' hn0 Try.underlying23 hi _ _ _ hown2
            have HO : Hid (wr.ownsRow w.heap.size 50 2 (.slice (some ⟨g, 0, none⟩) 0 cp) n (cellsP ps)) := by
              show World.ownsRow _ _ _ _ _ _ _
              rw [hn0, List.length_eq_zero_iff.1 (Hn.out.trans hn0)]
              exact hown2
            have Hn0 : Hid (n = 0) := hn0
            clear hn0 hown2
            go_wp2_with (at_builtin; refine Lib.wpList_append_run _ rfl _ _ _ _ rfl _ _ rfl rfl _ _ (hrn _) ?_)
            go_roundw
            case rel => exact ⟨n, _, .inr (.inl ⟨by go_num, rfl, rfl⟩), ⟨g, cp, by rw [Hn0.out]⟩, HO.out, hbel⟩
            case measure => simp [intOf]
          | some ad =>
            go_wp2_with (at_builtin; refine wpList_append_own _ rfl _ _ 23 rfl w.heap.size 50 i0 _ 2 24 Try.underlying23 hi hz0 hz1 hz2 rfl (by decide) _ _ _ rfl hown2 ad n c' (cellsP ps) rfl ?qc1 ?qc2 ?qc3 ?qc4 ?qc5 ?qc6 ?_)
            case qc1 => rw [cellsP_length, Hn.out]
            case qc2 => exact isP_src HPr.out
            case qc3 => exact cellsP_one ps
            case qc4 => unfold maxLen; omega
            case qc5 => omega
            case qc6 => exact hbel.size
            intro v' w2 hown3 hgrow hnil
            have hb2 : Below w.heap.size w w2 := hbel.grown hgrow hbel.size (by intro k hk; simp [Value.ownBlock] at hk; omega)
            obtain ⟨g', cap', rfl⟩ : ∃ g cap, v' = .slice (some ⟨g, 0, none⟩) n cap := by
              rcases hown3.2 with ⟨h, _⟩ | ⟨g, cap, cur, h, _⟩
              · exact absurd h hnil
              · exact ⟨g, cap, h⟩
            have HO : Hid (w2.ownsRow w.heap.size 50 2 (.slice (some ⟨g', 0, none⟩) n cap') n (cellsP ps)) := hown3
            clear hown3 hown2 hnil hgrow
            go_wp2
            go_roundw
            case rel => exact ⟨n, _, .inr (.inl ⟨by go_num, rfl, rfl⟩), ⟨_, _, rfl⟩, HO.out, hb2⟩
            case measure => simp [intOf]
        · replace s1 := cell_below hbel s1
          have HPr : Hid (IsP wr (some ⟨g1, 0, none⟩) 1 [q]) := HQ.out.below hbel
          have hgw := (hown2.lt g rfl).1
          go_wp2_with (at_builtin; refine wpList_append_own _ rfl _ _ 23 rfl w.heap.size 50 i0 _ 2 24 Try.underlying23 hi hz0 hz1 hz2 rfl (by decide) _ _ _ rfl hown2 ⟨g1, 0, none⟩ 1 1 (cellsP [q]) rfl ?qc1 ?qc2 ?qc3 ?qc4 ?qc5 ?qc6 ?_)
          case qc1 => rfl
          case qc2 => exact isP_src HPr.out
          case qc3 => exact cellsP_one _
          case qc4 => unfold maxLen; omega
          case qc5 => omega
          case qc6 => exact hbel.size
          intro v' w2 hown3 hgrow hnil
          have hb2 : Below w.heap.size w w2 := hbel.grown hgrow hbel.size (by intro k hk; simp [Value.ownBlock] at hk; omega)
          obtain ⟨g', cap', rfl⟩ : ∃ g cap, v' = .slice (some ⟨g, 0, none⟩) (k + 1) cap := by
            rcases hown3.2 with ⟨h, _⟩ | ⟨g, cap, cur, h, _⟩
            · exact absurd h hnil
            · exact ⟨g, cap, h⟩
          rw [← cellsP_append] at hown3
          have HO : Hid (w2.ownsRow w.heap.size 50 2 (.slice (some ⟨g', 0, none⟩) (k + 1) cap') (k + 1) (cellsP (ps ++ [q]))) := hown3
          clear hown3 hown2 hnil hgrow
          go_wp2
          go_roundw
          case rel => exact ⟨k + 1, _, .inr (.inr ⟨by go_num, rfl, rfl⟩), ⟨_, _, rfl⟩, HO.out, hb2⟩
          case measure => simp [intOf]
        · have HI : Hid (IsP wr (some ⟨g, 0, none⟩) cp (ps ++ [q])) := owned_isP hown2 (by rw [List.length_append, Hn.out]; rfl) HK.out
          have hgw := (hown2.lt g rfl).1
          clear hown2
          go_wp2
          go_ret
          exact ⟨g, cp, rfl, hgw, HI.out, hbel⟩

end Go.Proofs.Ytogadbckiaghcaa
