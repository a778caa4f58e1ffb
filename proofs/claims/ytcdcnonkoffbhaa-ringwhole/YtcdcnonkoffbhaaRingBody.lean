/-
  Package ring's bodyOf and Pack.
-/
import Derived.Test.YtcdcnonkoffbhaaRingOwn
import Derived.Test.YtcdcnonkoffbhaaRingMay
import Derived.Test.YtcdcnonkoffbhaaNodeJoined
import Derived.Lib.AppendZeros
import Derived.Deep.RegionHeld3
namespace Go.Proofs.Ytcdcnonkoffbhaa
open Go.RowKit Plain
set_option linter.unusedVariables false

/-- All parts of a row of the call's own. -/
theorem all_own {W : World} {base : Nat} {v : Value} {n : Nat} {xs : List ByteArray} (hown : W.ownsRow base 9 1 v n (xs.map Value.string)) (hx : 1 ≤ xs.length) (hl : xs.length ≤ 140737488355328) (hlen : (cat xs).size ≤ 140737488355328) :
    Calls Try.prog 27 #[v] W fun e w' => e = .returned (.string (cat xs)) ∧ Below W.heap.size W w' := by
  have hn : xs.length = n := by simpa using hown.1
  have hlt := hown.lt
  have hcells := fun g => hown.cells (g := g)
  rcases hown.2 with ⟨rfl, rfl⟩ | ⟨g, cap, cur, rfl, hg, hh, hnc, hcm, hcs, htk⟩
  · omega
  · subst hn
    refine all_row g 0 cap xs W (fun j x hj => ?_) (hlt g rfl).2 hl hnc hlen
    have := hcells g rfl j (.string x) (by rw [List.getElem?_map, hj]; rfl)
    rw [at_add] at this
    exact this

theorem isS_two (W : World) (x y : ByteArray) (hx : x.size ≤ maxLen) (hy : y.size ≤ maxLen) : IsS (W.alloc (.cells #[.string x, .string y] 9)) (some ⟨W.heap.size, 0, none⟩) 2 [x, y] := by
  refine ⟨Nat.le_refl _, by unfold maxLen; omega, fun j d hd => ?_⟩
  match j, hd with
  | 0, hd => simp at hd; subst hd; exact ⟨W.heap.size, 0, rfl, by simp, World.cell?_alloc_at _ _ _ _ rfl, hx⟩
  | 1, hd => simp at hd; subst hd; exact ⟨W.heap.size, 0, rfl, by simp, World.cell?_alloc_at _ _ _ _ rfl, hy⟩

theorem isS_three (W : World) (x y z : ByteArray) (hx : x.size ≤ maxLen) (hy : y.size ≤ maxLen) (hz : z.size ≤ maxLen) : IsS (W.alloc (.cells #[.string x, .string y, .string z] 9)) (some ⟨W.heap.size, 0, none⟩) 3 [x, y, z] := by
  refine ⟨Nat.le_refl _, by unfold maxLen; omega, fun j d hd => ?_⟩
  match j, hd with
  | 0, hd => simp at hd; subst hd; exact ⟨W.heap.size, 0, rfl, by simp, World.cell?_alloc_at _ _ _ _ rfl, hx⟩
  | 1, hd => simp at hd; subst hd; exact ⟨W.heap.size, 0, rfl, by simp, World.cell?_alloc_at _ _ _ _ rfl, hy⟩
  | 2, hd => simp at hd; subst hd; exact ⟨W.heap.size, 0, rfl, by simp, World.cell?_alloc_at _ _ _ _ rfl, hz⟩

theorem textS_le65 (s : ByteArray) : (textS s).size ≤ 65537 := by
  by_cases h : s.size ≤ 65535
  · rw [textS_size h]; omega
  · rw [textS, if_neg h]; simp [ByteArray.size]
theorem putS_le6 (n : Int) (k : Int) : (putS n k).size ≤ 6 := by
  by_cases h : putOk n k = true
  · have := putS_size h
    have := ((putOk_iff n k).1 h).2.1
    omega
  · rw [putS_bad (by simpa using h)]; simp [ByteArray.size]

/-- The parts behind so many changes. -/
def partsTo (cs : List Chg) (j : Nat) : List ByteArray := putS cs.length 1 :: partsC (cs.take j)

theorem partC_len (c : Chg) : (partC c).length ≤ 3 := by unfold partC; split <;> simp
theorem partC_size (c : Chg) : ∀ x ∈ partC c, x.size ≤ 65537 := by
  intro x hx
  unfold partC at hx
  split at hx
  · simp at hx
    rcases hx with rfl | rfl
    · have := putS_le6 1 1; omega
    · exact textS_le65 _
  · simp at hx
    rcases hx with rfl | rfl | rfl
    · have := putS_le6 0 1; omega
    · exact textS_le65 _
    · exact textS_le65 _
theorem partsC_len (cs : List Chg) : (partsC cs).length ≤ 3 * cs.length := by
  induction cs with
  | nil => exact Nat.le_refl _
  | cons c cs ih =>
    rw [partsC_cons, List.length_append, List.length_cons]
    have := partC_len c
    omega
theorem partsC_sizes (cs : List Chg) : ∀ x ∈ partsC cs, x.size ≤ 65537 := by
  intro x hx
  obtain ⟨c, _, h⟩ := List.mem_flatMap.1 hx
  exact partC_size c x h
theorem cat_bound (xs : List ByteArray) (m : Nat) (h : ∀ x ∈ xs, x.size ≤ m) : (cat xs).size ≤ xs.length * m := by
  rw [cat_size]
  induction xs with
  | nil => simp
  | cons x xs ih =>
    have h1 := h x (List.mem_cons_self ..)
    have h2 := ih (fun y hy => h y (List.mem_cons_of_mem _ hy))
    rw [List.map_cons, List.sum_cons, List.length_cons, Nat.succ_mul]
    omega
theorem partsTo_len (cs : List Chg) (j : Nat) (h : cs.length ≤ 300) : (partsTo cs j).length ≤ 901 := by
  have := partsC_len (cs.take j)
  have h2 : (cs.take j).length ≤ 300 := by rw [List.length_take]; omega
  unfold partsTo
  rw [List.length_cons]
  omega
theorem partsTo_sizes (cs : List Chg) (j : Nat) : ∀ x ∈ partsTo cs j, x.size ≤ 65537 := by
  intro x hx
  rcases List.mem_cons.1 hx with rfl | hx
  · have := putS_le6 (cs.length : Int) 1; omega
  · exact partsC_sizes _ x hx
theorem partsTo_cat (cs : List Chg) (j : Nat) (h : cs.length ≤ 300) : (cat (partsTo cs j)).size ≤ 60000000 := by
  have h1 := cat_bound _ _ (partsTo_sizes cs j)
  have h2 := partsTo_len cs j h
  have : (partsTo cs j).length * 65537 ≤ 901 * 65537 := Nat.mul_le_mul_right _ h2
  omega
theorem partsTo_next {cs : List Chg} {j : Nat} {c : Chg} (h : cs[j]? = some c) : partsTo cs (j + 1) = partsTo cs j ++ partC c := by
  unfold partsTo
  rw [List.take_add_one, h, Option.toList_some, partsC_append]
  simp [partsC]
theorem partsTo_all (cs : List Chg) : cat (partsTo cs cs.length) = packS cs := by unfold partsTo packS; rw [List.take_length]

set_option maxRecDepth 20000 in
set_option maxHeartbeats 2000000 in
theorem bodyOf_any (a : Option Addr) (c n : Nat) (cs : List Chg) (w : World) (hn : n = cs.length) (hC : IsC w a c cs) (hl : n ≤ 300) :
    Calls Try.prog 34 #[.slice a n c] w fun e w' => e = .returned (.string (packS cs)) ∧ Below w.heap.size w w' := by
  have HC : Hid (IsC w a c cs) := hC
  have HN : Hid (n = cs.length) := hn
  have c0 := fun W => number_any n W
  have hz0 := putS_le6 (n : Int) 1
  have HP0 : Hid (partsTo cs 0 = [putS (n : Int) 1]) := by show _ = _; unfold partsTo; rw [hn]; rfl
  generalize putS (n : Int) 1 = p0 at *
  clear hn hC
  go_enter Try.func34, Try.ntmps34
  go_wp2_with (go_at_call 28; refine (c0 _).mono ?_; rintro e w1 ⟨rfl, hb0⟩)
  go_loopw [3, 12] (fun b v wr => ∃ (j m : Nat), j ≤ n ∧ v = .int .i64 j ∧ wr.ownsRow w.heap.size 9 1 b m ((partsTo cs j).map Value.string) ∧ m ≤ 1 + 3 * j ∧ Below w.heap.size w wr) (fun _ v _ => n - (intOf v).toNat)
  case atStart =>
    refine ⟨0, 1, by omega, rfl, ?_, by omega, hb0.alloc hb0.size _⟩
    rw [HP0.out]
    exact World.ownsRow_lit _ #[.string p0] 1 hb0.size (by unfold maxLen; omega) rfl
  case round =>
    obtain ⟨j, m, hj, rfl, hown, hm, hB⟩ := hrel
    clear hb0 c0
    by_cases hlt : j < n
    · obtain ⟨⟨k, v, g⟩, hx⟩ : ∃ x, cs[j]? = some x := ⟨_, List.getElem?_eq_getElem (by rw [← HN.out]; exact hlt)⟩
      obtain ⟨bk, o, rfl, hbk, d0, d1, d2, mk, mv⟩ := HC.out.2.2 j _ hx
      replace d0 := cell_below hB d0
      replace d1 := cell_below hB d1
      replace d2 := cell_below hB d2
      have HX : Hid (partsTo cs (j + 1) = partsTo cs j ++ partC (k, v, g)) := partsTo_next hx
      have hjn : (j : Int) < n := by omega
      have P := box3_new wr (.string k) (.string v) (.bool g) 68
      obtain ⟨⟨p0, p1, p2⟩, -⟩ := id P
      have HB : Hid (Below w.heap.size w (wr.alloc (.cells #[.string k, .string v, .bool g] 68))) := hB.alloc hB.size _
      have HO : Hid ((wr.alloc (.cells #[.string k, .string v, .bool g] 68)).ownsRow w.heap.size 9 1 u3 m ((partsTo cs j).map Value.string)) := hown.alloc _
      have hno : Hid (¬ u3.ownBlock = some wr.heap.size) := fun h => by have := (hown.lt _ h).2; omega
      have cK := fun W => ringText_any k W mk
      have cV := fun W => ringText_any v W mv
      have zK := textS_le65 k
      have zV := textS_le65 v
      have z1 := putS_le6 1 1
      have z0 := putS_le6 0 1
      have cN := fun W => number_any 1 W
      have cO := fun W => number_any 0 W
      have hq1 : Hid (partC (k, v, true) = [putS 1 1, textS k]) := rfl
      have hq0 : Hid (partC (k, v, false) = [putS 0 1, textS k, textS v]) := rfl
      generalize putS 1 1 = n1 at *
      generalize putS 0 1 = n0 at *
      generalize textS k = tk at *
      generalize textS v = tv at *
      clear hx hbk mk mv hown hB P
      cases g with
      | true =>
        rw [hq1.out] at HX
        clear hq0 cO cV zV z0 p1
        go_wp2
        have HB' := HB.out.drew
        have HO' := HO.out.drew
        replace p0 : (wr.alloc (.cells #[.string k, .string v, .bool true] 68)).drew.cell? ⟨wr.heap.size, 0, none⟩ = some (.string k) := p0
        go_region_held3 (fun V => V.cell? ⟨wr.heap.size, 0, none⟩ = some (.string k)) (first | exact p0 | exact cell_alloc p0 _) (first
          | (go_at_call 28; refine (cN _).mono ?_; rintro e w1 ⟨rfl, hb⟩; replace p0 := cell_below hb p0; replace HB' := Below.tr HB' hb; replace HO' := (Turns.of_below (P := fun _ => False) hb).owns HO' (fun _ _ h => h); clear hb)
          | (go_at_call 58; refine (cK _).mono ?_; rintro e w2 ⟨rfl, hb⟩; replace p0 := cell_below hb p0; replace HB' := Below.tr HB' hb; replace HO' := (Turns.of_below (P := fun _ => False) hb).owns HO' (fun _ _ h => h); obtain ⟨v3, w3, hrun, own3, gr3, at3⟩ := append_S (w2.alloc (.cells #[.string n1, .string tk] 9)) w.heap.size u3 m _ (HO'.alloc _) (Nat.le_trans HB'.size (by simp)) (some ⟨w2.heap.size, 0, none⟩) 2 2 [n1, tk] rfl (isS_two w2 n1 tk (by unfold maxLen; omega) (by unfold maxLen; omega)) (by omega); have p0' := (((Turns.refl (fun i => u3.ownBlock = some i) _).alloc _).grown gr3 (fun i hi => hi)).cell (p := ⟨wr.heap.size, 0, none⟩) hno.out p0; have HB3 : Below w.heap.size w w3 := (HB'.alloc HB'.size _).grown gr3 (Nat.le_trans HB'.size (by simp)) (fun i hi => (HO'.lt i hi).1); have HO3 : Hid _ := own3; clear hb own3 gr3 at3)
          | (refine Lib.wp_append_run _ _ _ _ _ rfl _ _ rfl rfl _ _ hrun ?_; clear p0; have p0 := p0'; clear p0'))
        go_wp2
        go_roundw
        case rel => exact ⟨j + 1, m + 2, by omega, by go_num, by rw [HX.out]; exact HO3.out, by omega, HB3⟩
        case measure => simp [intOf]; omega
      | false =>
        rw [hq0.out] at HX
        clear hq1 cN z1
        have tok1 : True := trivial
        go_wp2
        have HB' := HB.out.drew
        have HO' := HO.out.drew
        replace p0 : (wr.alloc (.cells #[.string k, .string v, .bool false] 68)).drew.cell? ⟨wr.heap.size, 0, none⟩ = some (.string k) := p0
        replace p1 : (wr.alloc (.cells #[.string k, .string v, .bool false] 68)).drew.cell? ⟨wr.heap.size, 1, none⟩ = some (.string v) := p1
        go_region_held3 (fun V => V.cell? ⟨wr.heap.size, 0, none⟩ = some (.string k) ∧ V.cell? ⟨wr.heap.size, 1, none⟩ = some (.string v)) (first | exact ⟨p0, p1⟩ | exact ⟨cell_alloc p0 _, cell_alloc p1 _⟩) (first
          | (go_at_call 28; refine (cO _).mono ?_; rintro e w1 ⟨rfl, hb⟩; replace p0 := cell_below hb p0; replace p1 := cell_below hb p1; replace HB' := Below.tr HB' hb; replace HO' := (Turns.of_below (P := fun _ => False) hb).owns HO' (fun _ _ h => h); clear hb)
          | (go_at_call 58; have _t := tok1; refine (cK _).mono ?_; rintro e w2 ⟨rfl, hb⟩; replace p0 := cell_below hb p0; replace p1 := cell_below hb p1; replace HB' := Below.tr HB' hb; replace HO' := (Turns.of_below (P := fun _ => False) hb).owns HO' (fun _ _ h => h); clear hb tok1 _t)
          | (go_at_call 58; refine (cV _).mono ?_; rintro e w4 ⟨rfl, hb⟩; replace p0 := cell_below hb p0; replace p1 := cell_below hb p1; replace HB' := Below.tr HB' hb; replace HO' := (Turns.of_below (P := fun _ => False) hb).owns HO' (fun _ _ h => h); obtain ⟨v3, w3, hrun, own3, gr3, at3⟩ := append_S (w4.alloc (.cells #[.string n0, .string tk, .string tv] 9)) w.heap.size u3 m _ (HO'.alloc _) (Nat.le_trans HB'.size (by simp)) (some ⟨w4.heap.size, 0, none⟩) 3 3 [n0, tk, tv] rfl (isS_three w4 n0 tk tv (by unfold maxLen; omega) (by unfold maxLen; omega) (by unfold maxLen; omega)) (by omega); have p0' := (((Turns.refl (fun i => u3.ownBlock = some i) _).alloc _).grown gr3 (fun i hi => hi)).cell (p := ⟨wr.heap.size, 0, none⟩) hno.out p0; have p1' := (((Turns.refl (fun i => u3.ownBlock = some i) _).alloc _).grown gr3 (fun i hi => hi)).cell (p := ⟨wr.heap.size, 1, none⟩) hno.out p1; have HB3 : Below w.heap.size w w3 := (HB'.alloc HB'.size _).grown gr3 (Nat.le_trans HB'.size (by simp)) (fun i hi => (HO'.lt i hi).1); have HO3 : Hid _ := own3; clear hb own3 gr3 at3)
          | (refine Lib.wp_append_run _ _ _ _ _ rfl _ _ rfl rfl _ _ hrun ?_; clear p0 p1; have p0 := p0'; have p1 := p1'; clear p0' p1'))
        go_wp2
        go_roundw
        case rel => exact ⟨j + 1, m + 3, by omega, by go_num, by rw [HX.out]; exact HO3.out, by omega, HB3⟩
        case measure => simp [intOf]; omega
    · obtain rfl : j = n := by omega
      have hlen : Hid (1 ≤ (partsTo cs j).length ∧ (partsTo cs j).length ≤ 901) := ⟨by unfold partsTo; simp, partsTo_len cs j (by rw [← HN.out]; exact hl)⟩
      have c1 : Calls Try.prog 27 #[u3] wr fun e w' => e = .returned (.string (packS cs)) ∧ Below wr.heap.size wr w' := by
        have := all_own hown hlen.out.1 (by have := hlen.out.2; omega) (by have := partsTo_cat cs j (by rw [← HN.out]; exact hl); omega)
        rw [HN.out, partsTo_all] at this
        exact this
      clear hown
      go_wp2_with (go_at_call 27; refine c1.mono ?_; rintro e w2 ⟨rfl, hb⟩)
      go_ret
      exact ⟨rfl, Below.tr hB hb⟩

set_option maxRecDepth 20000 in
set_option maxHeartbeats 1000000 in
theorem ringPack_any (a : Option Addr) (c n : Nat) (cs : List Chg) (w : World) (hn : n = cs.length) (hC : IsC w a c cs) :
    Calls Try.prog 18 #[.slice a n c] w fun e w' => e = .returned (.tuple #[.string (packR cs), .int .i64 (packE cs)]) ∧ Below w.heap.size w w' := by
  have c1 : ∀ W, Below w.heap.size w W → Calls Try.prog 33 #[.slice a n c] W fun e w' => e = .returned (.bool (cs.all mayC)) ∧ Below W.heap.size W w' := fun W hB => mayBe_any a c n cs W hn (hC.below hB)
  have c2 : n ≤ 300 → ∀ W, Below w.heap.size w W → Calls Try.prog 34 #[.slice a n c] W fun e w' => e = .returned (.string (packS cs)) ∧ Below W.heap.size W w' := fun h W hB => bodyOf_any a c n cs W hn (hC.below hB) h
  have hnb : n ≤ 9223372036854775807 := by have := hC.1; have := hC.2.1; unfold maxLen at *; omega
  have eP : packR cs = if packE cs = 0 then packS cs else ⟨#[]⟩ := rfl
  have eE : packE cs = if cs.all mayC then (if n ≤ 255 then (if (packS cs).size ≤ 480 then 0 else 2) else 2) else 1 := by rw [hn]; rfl
  have hz : n ≤ 300 → (packS cs).size ≤ 60000000 := fun h => by rw [← partsTo_all]; exact partsTo_cat cs _ (by rw [← hn]; exact h)
  rw [eP]
  generalize packE cs = E at *
  generalize packS cs = q at *
  generalize cs.all mayC = m at *
  clear hn hC eP
  have hB := Below.refl w.heap.size w
  cases m with
  | false =>
    obtain rfl : E = 1 := eE
    rw [if_neg (by decide)]
    clear c2
    go_enter Try.func18, Try.ntmps18
    go_wp2_with (go_at_call 33; refine (c1 _ hB).mono ?_; rintro e w1 ⟨rfl, hb⟩; replace hB := Below.tr hB hb; clear hb)
    go_ret2
    exact ⟨rfl, hB⟩
  | true =>
    by_cases h1 : n ≤ 255
    · have h1' : (n : Int) ≤ 255 := by omega
      replace c2 := c2 (by omega)
      replace hz := hz (by omega)
      rw [if_pos rfl, if_pos h1] at eE
      by_cases h2 : q.size ≤ 480
      · have h2' : (q.size : Int) ≤ 480 := by omega
        rw [if_pos h2] at eE
        subst eE
        rw [if_pos rfl]
        go_enter Try.func18, Try.ntmps18
        go_wp2_with (first
          | (go_at_call 33; refine (c1 _ hB).mono ?_; rintro e w1 ⟨rfl, hb⟩; replace hB := Below.tr hB hb; clear hb)
          | (go_at_call 34; refine (c2 _ hB).mono ?_; rintro e w2 ⟨rfl, hb⟩; replace hB := Below.tr hB hb; clear hb))
        go_ret2
        exact ⟨rfl, hB⟩
      · have h2' : ¬ (q.size : Int) ≤ 480 := by omega
        rw [if_neg h2] at eE
        subst eE
        rw [if_neg (by decide)]
        go_enter Try.func18, Try.ntmps18
        go_wp2_with (first
          | (go_at_call 33; refine (c1 _ hB).mono ?_; rintro e w1 ⟨rfl, hb⟩; replace hB := Below.tr hB hb; clear hb)
          | (go_at_call 34; refine (c2 _ hB).mono ?_; rintro e w2 ⟨rfl, hb⟩; replace hB := Below.tr hB hb; clear hb))
        go_ret2
        exact ⟨rfl, hB⟩
    · have h1' : ¬ (n : Int) ≤ 255 := by omega
      rw [if_pos rfl, if_neg h1] at eE
      subst eE
      rw [if_neg (by decide)]
      clear c2
      go_enter Try.func18, Try.ntmps18
      go_wp2_with (go_at_call 33; refine (c1 _ hB).mono ?_; rintro e w1 ⟨rfl, hb⟩; replace hB := Below.tr hB hb; clear hb)
      go_ret2
      exact ⟨rfl, hB⟩

set_option maxHeartbeats 400000 in
theorem alive13_any (w : World) :
    Calls Try.prog 13 #[] w fun e w' => e = .returned (.bool true) ∧ Below w.heap.size w w' := by
  have c1 : ∀ W, Calls Try.prog 18 #[.slice none 0 0] W fun e w' => e = .returned (.tuple #[.string ⟨#[0]⟩, .int .i64 0]) ∧ Below W.heap.size W w' := by
    intro W
    have := ringPack_any none 0 0 [] W rfl (isC_nil _ _ _ (Nat.zero_le _))
    rw [show packR [] = ⟨#[0]⟩ by decide +kernel, show packE [] = 0 by decide +kernel] at this
    exact this
  go_enter Try.func13, Try.ntmps13
  go_wp2_with (go_at_call 18; refine (c1 _).mono ?_; rintro e w1 ⟨rfl, hb⟩)
  go_ret
  exact ⟨ret_bool (by simp), hb⟩

end Go.Proofs.Ytcdcnonkoffbhaa
