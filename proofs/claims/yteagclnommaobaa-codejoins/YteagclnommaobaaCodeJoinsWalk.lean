/-
  The walk of the law CodeJoins: it returns true at all arguments.
-/
import Derived.Test.YteagclnommaobaaText
import Derived.Deep.RegionHeld3
namespace Go.Proofs.Yteagclnommaobaa
open Go.RowKit Plain
set_option linter.unusedVariables false

/-- What the walk is told of a slice of texts that came in. -/
def IsStrs (w : World) (a : Option Addr) (len cap : Nat) (zs : List ByteArray) : Prop :=
  (a = none ∧ len = 0 ∧ cap = 0 ∧ zs = []) ∨
  ∃ x, a = some x ∧ len ≤ cap ∧ cap ≤ maxLen ∧ zs.length = cap ∧ (∀ i, i < zs.length → w.cell? (x.add i) = some (.string (zs.getD i ByteArray.empty))) ∧ ∀ s ∈ zs, s.size ≤ maxLen

/-- All, at a slice of texts that lies in memory as it was when the law's call began. -/
theorem all_from (w W : World) (hB : Below w.heap.size w W) (b o c n : Nat) (xs : List ByteArray) (hn : xs.length = n) (hcells : ∀ (j : Nat) x, xs[j]? = some x → w.cell? ⟨b, o + j, none⟩ = some (.string x)) (hb : b < w.heap.size) (h50 : n ≤ 50) (hcap : n ≤ c) (hlen : (cat xs).size ≤ 140737488355328) :
    Calls Try.prog 22 #[.slice (some ⟨b, o, none⟩) n c] W fun e w' => e = .returned (.string (cat xs)) ∧ Below w.heap.size w w' := by
  subst hn
  refine (all_row b o c xs W (fun j x hj => ?_) (by have := hB.size; omega) (by omega) hcap hlen).mono fun e w' ⟨he, hb'⟩ => ⟨he, Below.tr hB hb'⟩
  rw [hB.cell (p := ⟨b, o + j, none⟩) hb]
  exact hcells j x hj

theorem alive_from (w W : World) (hB : Below w.heap.size w W) :
    Calls Try.prog 11 #[] W fun e w' => e = .returned (.bool true) ∧ Below w.heap.size w w' :=
  (alive_any W).mono fun e w' ⟨he, hb'⟩ => ⟨he, Below.tr hB hb'⟩

theorem all_two_from (w W : World) (hB : Below w.heap.size w W) (x y : ByteArray) (hlen : x.size + y.size ≤ 140737488355328) :
    Calls Try.prog 22 #[.slice (some ⟨W.heap.size, 0, none⟩) 2 2] (W.alloc (.cells #[.string x, .string y] 9)) fun e w' => e = .returned (.string (cat [x, y])) ∧ Below w.heap.size w w' :=
  (all_two x y W hlen).mono fun e w' ⟨he, hb'⟩ => ⟨he, Below.tr hB hb'⟩

theorem cat_split (zs : List ByteArray) (n t : Nat) (h : t ≤ n) : cat (zs.take n) = cat (zs.take t) ++ cat ((zs.take n).drop t) := by
  rw [← cat_append]
  congr 1
  conv => lhs; rw [← List.take_append_drop t (zs.take n)]
  rw [List.take_take, Nat.min_eq_left h]

/-- What is needed behind the loop: the calls of All, and how their answers hang together. -/
theorem joins_prep (w : World) (b off cap n t : Nat) (zs : List ByteArray) (hb : b < w.heap.size) (hz : zs.length = cap)
    (HC : ∀ i, i < cap → w.cell? ⟨b, off + i, none⟩ = some (.string (zs.getD i ByteArray.empty))) (hn : n ≤ cap) (ht : t ≤ n) (h50 : n ≤ 50) (hsz : (cat (zs.take n)).size ≤ 1000 * n) :
    (∀ W, Below w.heap.size w W → Calls Try.prog 22 #[.slice (some ⟨b, off, none⟩) n cap] W fun e w' => e = .returned (.string (cat (zs.take n))) ∧ Below w.heap.size w w') ∧
    (∀ W, Below w.heap.size w W → Calls Try.prog 22 #[.slice (some ⟨b, off, none⟩) t cap] W fun e w' => e = .returned (.string (cat (zs.take t))) ∧ Below w.heap.size w w') ∧
    (∀ W, Below w.heap.size w W → Calls Try.prog 22 #[.slice (some ⟨b, off + t, none⟩) (n - t) (cap - t)] W fun e w' => e = .returned (.string (cat ((zs.take n).drop t))) ∧ Below w.heap.size w w') ∧
    cat [cat (zs.take t), cat ((zs.take n).drop t)] = cat (zs.take n) ∧ (cat (zs.take t)).size + (cat ((zs.take n).drop t)).size ≤ 140737488355328 := by
  have hsp := cat_split zs n t ht
  have hss : (cat (zs.take t)).size + (cat ((zs.take n).drop t)).size = (cat (zs.take n)).size := by rw [hsp, ByteArray.size_append]
  have hat : ∀ (m j : Nat) x, zs[m + j]? = some x → w.cell? ⟨b, off + m + j, none⟩ = some (.string x) := by
    intro m j x hx
    have hlt : m + j < zs.length := (List.getElem?_eq_some_iff.1 hx).1
    rw [Nat.add_assoc, HC (m + j) (by omega), List.getD_eq_getElem?_getD, hx]
    rfl
  have htk : ∀ (m : Nat) j x, (zs.take m)[j]? = some x → w.cell? ⟨b, off + j, none⟩ = some (.string x) := by
    intro m j x hx
    have h2 : zs[j]? = some x := by
      rw [List.getElem?_take] at hx
      split at hx
      · exact hx
      · cases hx
    have := hat 0 j x (by rw [Nat.zero_add]; exact h2)
    simpa using this
  refine ⟨fun W h => all_from w W h b off cap n (zs.take n) (by simp; omega) (htk n) hb h50 hn (by omega), fun W h => all_from w W h b off cap t (zs.take t) (by simp; omega) (htk t) hb (by omega) (by omega) (by omega),
    fun W h => all_from w W h b (off + t) (cap - t) (n - t) ((zs.take n).drop t) (by simp; omega) ?_ hb (by omega) (by omega) (by omega), by rw [cat_two, hsp], by omega⟩
  intro j x hx
  rw [List.getElem?_drop, List.getElem?_take] at hx
  split at hx
  · exact hat t j x hx
  · cases hx

set_option maxHeartbeats 8000000 in
theorem joins_row (b off len cap : Nat) (zs : List ByteArray) (k : Int) (w : World) (hl : len ≤ cap) (hm : cap ≤ maxLen) (hz : zs.length = cap) (hb : b < w.heap.size)
    (hcell : ∀ i, i < cap → w.cell? ⟨b, off + i, none⟩ = some (.string (zs.getD i ByteArray.empty))) (hkb : -9223372036854775808 ≤ k ∧ k ≤ 9223372036854775807) :
    Calls Try.prog 7 #[.slice (some ⟨b, off, none⟩) len cap, .int .i64 k] w fun e w' => e = .returned (.bool true) ∧ Below w.heap.size w w' := by
  have hB : Below w.heap.size w w := Below.refl _ _
  unfold maxLen at hm
  have HC : Hid (∀ i, i < cap → w.cell? ⟨b, off + i, none⟩ = some (.string (zs.getD i ByteArray.empty))) := hcell
  clear hcell
  go_enter Try.func7, Try.ntmps7
  go_wp2
  go_loop [0, 5, 10] (fun p v i => ∃ j : Nat, j ≤ len ∧ j ≤ 50 ∧ p = .slice (some ⟨b, off, none⟩) len cap ∧ i = .int .i64 j ∧ v = .string (cat (zs.take j)) ∧ (cat (zs.take j)).size ≤ 1000 * j) (fun _ _ i => len - (intOf i).toNat)
  case atStart => exact ⟨0, by omega, by omega, rfl, rfl, rfl, Nat.zero_le _⟩
  case round =>
    obtain ⟨j, hj, h50, rfl, rfl, rfl, hsz⟩ := hrel
    by_cases hlt : j < len
    · have hc := HC.out j (by omega)
      obtain ⟨z, ez⟩ : ∃ z, zs.getD j ByteArray.empty = z := ⟨_, rfl⟩
      rw [ez] at hc
      have EZ : Hid (zs.getD j ByteArray.empty = z) := ez
      clear ez
      by_cases h5 : j < 50
      · have h5' : ¬ (50 : Int) ≤ j := by omega
        by_cases hbig : 1000 < z.size
        · have hbig' : (1000 : Int) < z.size := by omega
          go_wp2_with (go_at_call 11; refine (alive_any _).mono ?_; rintro e w' ⟨rfl, hb⟩; replace hB := Below.tr hB hb; clear hb)
          go_ret
          exact ⟨rfl, hB⟩
        · have hbig' : ¬ (1000 : Int) < z.size := by omega
          have hadd : ¬ 9223372036854775807 < (cat (zs.take j)).size + z.size := by omega
          go_wp2
          go_round
          case rel => exact ⟨j + 1, by omega, by omega, rfl, by go_num, by rw [cat_take zs j (by omega), EZ.out], by rw [cat_take zs j (by omega), EZ.out, ByteArray.size_append]; omega⟩
          case measure => simp [intOf]; omega
      · obtain rfl : j = 50 := by omega
        have hr1 : -51 < k.tmod 51 := by have := Int.lt_tmod_of_pos k (show (0 : Int) < 51 by omega); omega
        have hr2 : k.tmod 51 < 51 := Int.tmod_lt_of_pos k (by omega)
        obtain ⟨t, ht⟩ : ∃ t : Nat, (k.tmod 51 + 50 + 1) % 51 = t := ⟨((k.tmod 51 + 50 + 1) % 51).toNat, by omega⟩
        have ht1 : t ≤ 50 := by omega
        have ht2 : (t : Int) ≤ 50 := by omega
        have ht3 : (0 : Int) ≤ t := by omega
        have ht4 : (t : Int) ≤ cap := by omega
        obtain ⟨c1, c2, c3, hjn, hs2⟩ := joins_prep w b off cap 50 t zs hb hz HC.out (by omega) ht1 (by omega) hsz
        have C1 : Hid _ := c1
        have C2 : Hid _ := c2
        have C3 : Hid _ := c3
        have hsz2 : Hid _ := hs2
        clear c1 c2 c3 HC hs2
        clear EZ
        go_wp2
        clear hc
        replace hB := Below.drew hB
        have tok1 : True := trivial
        have tok2 : True := trivial
        have tok3 : True := trivial
        have tok4 : True := trivial
        go_region_held3 (fun _ => True) (trivial) (first
          | (go_at_call 11; refine (alive_from w _ hB).mono ?_; rintro e w' ⟨rfl, hb'⟩; clear hB; have hB := hb'; clear hb')
          | (go_at_call 22; have _t := tok1; refine (C1.out _ hB).mono ?_; rintro e w' ⟨rfl, hb'⟩; clear hB; have hB := hb'; clear hb' tok1)
          | (go_at_call 22; have _t := tok2; refine (C2.out _ hB).mono ?_; rintro e w' ⟨rfl, hb'⟩; clear hB; have hB := hb'; clear hb' tok2)
          | (go_at_call 22; have _t := tok3; refine (C3.out _ hB).mono ?_; rintro e w' ⟨rfl, hb'⟩; clear hB; have hB := hb'; clear hb' tok3)
          | (go_at_call 22; have _t := tok4; refine (all_two_from w _ hB _ _ hsz2.out).mono ?_; rintro e w' ⟨rfl, hb'⟩; clear hB; have hB := hb'; clear hb' tok4)
          | (go_at_call 22; refine (all_none _ none 0).mono ?_; rintro e w' ⟨rfl, rfl⟩))
        go_wp2
        go_ret
        exact ⟨rfl, hB⟩
    · obtain rfl : j = len := by omega
      have hp0 : (0 : Int) < (j : Int) + 1 := by omega
      have hr1 : -((j : Int) + 1) < k.tmod ((j : Int) + 1) := by have := Int.lt_tmod_of_pos k hp0; omega
      have hr2 : k.tmod ((j : Int) + 1) < (j : Int) + 1 := Int.tmod_lt_of_pos k hp0
      obtain ⟨t, ht⟩ : ∃ t : Nat, (k.tmod ((j : Int) + 1) + (j : Int) + 1) % ((j : Int) + 1) = t := ⟨((k.tmod ((j : Int) + 1) + (j : Int) + 1) % ((j : Int) + 1)).toNat, by have := Int.emod_nonneg (k.tmod ((j : Int) + 1) + (j : Int) + 1) (show ((j : Int) + 1) ≠ 0 by omega); omega⟩
      have htl := Int.emod_lt_of_pos (k.tmod ((j : Int) + 1) + (j : Int) + 1) hp0
      have ht1 : t ≤ j := by omega
      have ht2 : (t : Int) ≤ j := by omega
      have ht3 : (0 : Int) ≤ t := by omega
      have ht4 : (t : Int) ≤ cap := by omega
      clear htl
      by_cases htc : t < cap
      · have htc' : (t : Int) < cap := by omega
        obtain ⟨c1, c2, c3, hjn, hs2⟩ := joins_prep w b off cap j t zs hb hz HC.out (by omega) ht1 (by omega) hsz
        have C1 : Hid _ := c1
        have C2 : Hid _ := c2
        have C3 : Hid _ := c3
        have hsz2 : Hid _ := hs2
        clear c1 c2 c3 HC hs2
        go_wp2
        replace hB := Below.drew hB
        have tok1 : True := trivial
        have tok2 : True := trivial
        have tok3 : True := trivial
        have tok4 : True := trivial
        go_region_held3 (fun _ => True) (trivial) (first
          | (go_at_call 11; refine (alive_from w _ hB).mono ?_; rintro e w' ⟨rfl, hb'⟩; clear hB; have hB := hb'; clear hb')
          | (go_at_call 22; have _t := tok1; refine (C1.out _ hB).mono ?_; rintro e w' ⟨rfl, hb'⟩; clear hB; have hB := hb'; clear hb' tok1)
          | (go_at_call 22; have _t := tok2; refine (C2.out _ hB).mono ?_; rintro e w' ⟨rfl, hb'⟩; clear hB; have hB := hb'; clear hb' tok2)
          | (go_at_call 22; have _t := tok3; refine (C3.out _ hB).mono ?_; rintro e w' ⟨rfl, hb'⟩; clear hB; have hB := hb'; clear hb' tok3)
          | (go_at_call 22; have _t := tok4; refine (all_two_from w _ hB _ _ hsz2.out).mono ?_; rintro e w' ⟨rfl, hb'⟩; clear hB; have hB := hb'; clear hb' tok4)
          | (go_at_call 22; refine (all_none _ none 0).mono ?_; rintro e w' ⟨rfl, rfl⟩))
        go_wp2
        go_ret
        exact ⟨rfl, hB⟩
      · obtain ⟨c1, c2, c3, hjn, hs2⟩ := joins_prep w b off cap j t zs hb hz HC.out (by omega) ht1 (by omega) hsz
        have C1 : Hid _ := c1
        have hs3 : (cat (zs.take t)).size + (⟨#[]⟩ : ByteArray).size ≤ 140737488355328 := by show _ + 0 ≤ _; omega
        have hsz2 : Hid _ := hs3
        obtain rfl : t = cap := by omega
        obtain rfl : j = t := by omega
        have hjn' : cat [cat (zs.take j), ⟨#[]⟩] = cat (zs.take j) := by
          rw [cat_two]; apply bytes_ext; rw [data_append]; simp
        clear c1 c2 c3 HC hs2 hs3 hjn ht1 ht2 ht4 hl
        go_wp2
        replace hB := Below.drew hB
        have tok1 : True := trivial
        have tok2 : True := trivial
        have tok3 : True := trivial
        have tok4 : True := trivial
        go_region_held3 (fun _ => True) (trivial) (first
          | (go_at_call 11; refine (alive_from w _ hB).mono ?_; rintro e w' ⟨rfl, hb'⟩; clear hB; have hB := hb'; clear hb')
          | (go_at_call 22; have _t := tok1; refine (C1.out _ hB).mono ?_; rintro e w' ⟨rfl, hb'⟩; clear hB; have hB := hb'; clear hb' tok1)
          | (go_at_call 22; have _t := tok2; refine (C1.out _ hB).mono ?_; rintro e w' ⟨rfl, hb'⟩; clear hB; have hB := hb'; clear hb' tok2)
          | (go_at_call 22; have _t := tok3; refine (all_none _ _ _).mono ?_; rintro e w' ⟨rfl, rfl⟩; clear tok3)
          | (go_at_call 22; have _t := tok4; refine (all_two_from w _ hB _ _ hsz2.out).mono ?_; rintro e w' ⟨rfl, hb'⟩; clear hB; have hB := hb'; clear hb' tok4)
          | (go_at_call 22; refine (all_none _ none 0).mono ?_; rintro e w' ⟨rfl, rfl⟩))
        go_wp2
        go_ret
        exact ⟨rfl, hB⟩

set_option maxHeartbeats 4000000 in
theorem joins_empty (a : Option Addr) (cap : Nat) (k : Int) (w : World) (hm : cap ≤ maxLen) (ha : a = none → cap = 0) :
    Calls Try.prog 7 #[.slice a 0 cap, .int .i64 k] w fun e w' => e = .returned (.bool true) ∧ Below w.heap.size w w' := by
  have hB : Below w.heap.size w w := Below.refl _ _
  unfold maxLen at hm
  have hk1 : k.tmod 1 = 0 := Int.tmod_one k
  have hjn : cat [(⟨#[]⟩ : ByteArray), ⟨#[]⟩] = ⟨#[]⟩ := by
    rw [cat_two]; apply bytes_ext; rw [data_append]; simp
  have hsz2 : Hid ((⟨#[]⟩ : ByteArray).size + (⟨#[]⟩ : ByteArray).size ≤ 140737488355328) := by show 0 + 0 ≤ _; omega
  have tok4 : True := trivial
  have tok3 : True := trivial
  have tok2 : True := trivial
  have tok1 : True := trivial
  cases a with
  | none =>
    obtain rfl : cap = 0 := ha rfl
    clear ha
    go_enter Try.func7, Try.ntmps7
    go_wp2
    go_rounds 1
    replace hB := Below.drew hB
    go_region_held3 (fun _ => True) (trivial) (first
      | (go_at_call 11; refine (alive_from w _ hB).mono ?_; rintro e w' ⟨rfl, hb'⟩; clear hB; have hB := hb'; clear hb')
      | (go_at_call 22; have _t := tok1; refine (all_none _ _ _).mono ?_; rintro e w' ⟨rfl, rfl⟩; clear tok1)
      | (go_at_call 22; have _t := tok2; refine (all_none _ _ _).mono ?_; rintro e w' ⟨rfl, rfl⟩; clear tok2)
      | (go_at_call 22; have _t := tok3; refine (all_none _ _ _).mono ?_; rintro e w' ⟨rfl, rfl⟩; clear tok3)
      | (go_at_call 22; have _t := tok4; refine (all_two_from w _ hB _ _ hsz2.out).mono ?_; rintro e w' ⟨rfl, hb'⟩; clear hB; have hB := hb'; clear hb' tok4)
      | (go_at_call 22; refine (all_none _ none 0).mono ?_; rintro e w' ⟨rfl, rfl⟩))
    go_wp2
    go_ret
    exact ⟨rfl, hB⟩
  | some x =>
    clear ha
    go_enter Try.func7, Try.ntmps7
    go_wp2
    go_rounds 1
    replace hB := Below.drew hB
    go_region_held3 (fun _ => True) (trivial) (first
      | (go_at_call 11; refine (alive_from w _ hB).mono ?_; rintro e w' ⟨rfl, hb'⟩; clear hB; have hB := hb'; clear hb')
      | (go_at_call 22; have _t := tok1; refine (all_none _ _ _).mono ?_; rintro e w' ⟨rfl, rfl⟩; clear tok1)
      | (go_at_call 22; have _t := tok2; refine (all_none _ _ _).mono ?_; rintro e w' ⟨rfl, rfl⟩; clear tok2)
      | (go_at_call 22; have _t := tok3; refine (all_none _ _ _).mono ?_; rintro e w' ⟨rfl, rfl⟩; clear tok3)
      | (go_at_call 22; have _t := tok4; refine (all_two_from w _ hB _ _ hsz2.out).mono ?_; rintro e w' ⟨rfl, hb'⟩; clear hB; have hB := hb'; clear hb' tok4)
      | (go_at_call 22; refine (all_none _ none 0).mono ?_; rintro e w' ⟨rfl, rfl⟩))
    go_wp2
    go_ret
    exact ⟨rfl, hB⟩

theorem codeJoins_walk (a : Option Addr) (len cap : Nat) (zs : List ByteArray) (k : Int) (w : World) (hz : IsStrs w a len cap zs) (wk : (Lit.int .i64 k).wf = true) :
    Calls Try.prog 7 #[.slice a len cap, .int .i64 k] w fun e w' => e = .returned (.bool true) ∧ Below w.heap.size w w' := by
  have hkb : -9223372036854775808 ≤ k ∧ k ≤ 9223372036854775807 := by simpa [Lit.wf, IntKind.min, IntKind.max, IntKind.signed, IntKind.bits] using wk
  rcases hz with ⟨rfl, rfl, rfl, rfl⟩ | ⟨x, rfl, hl, hm, hz, hcell, -⟩
  · exact joins_empty none 0 k w (by decide) fun _ => rfl
  · by_cases h0 : len = 0
    · subst h0
      exact joins_empty (some x) cap k w hm (fun h => by cases h)
    · obtain ⟨b, off, spot⟩ := x
      have hc := hcell 0 (by omega)
      have hspot : spot = none := by simpa [Addr.add] using World.cell?_spot hc
      subst hspot
      have hb : b < w.heap.size := by simpa [Addr.add] using block_lt_of_cell hc
      refine joins_row b off len cap zs k w hl hm hz hb (fun i hi => ?_) hkb
      have h := hcell i (by omega)
      have e : (⟨b, off, none⟩ : Addr).add i = ⟨b, off + i, none⟩ := by
        by_cases h : i = 0 <;> simp [Addr.add, h]
      rw [e] at h
      exact h

end Go.Proofs.Yteagclnommaobaa
