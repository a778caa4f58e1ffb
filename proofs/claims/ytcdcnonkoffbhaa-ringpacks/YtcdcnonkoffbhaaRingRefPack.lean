/-
  The document's own Pack.
-/
import Derived.Test.YtcdcnonkoffbhaaRingBody
import Derived.Test.YtcdcnonkoffbhaaRingRef
import Derived.Deep.RegionHeld3
namespace Go.Proofs.Ytcdcnonkoffbhaa
open Go.RowKit Plain
set_option linter.unusedVariables false

theorem refRingText_any (s : ByteArray) (w : World) (hs : s.size ≤ maxLen) :
    Calls Try.prog 36 #[.string s] w fun e w' => e = .returned (.string (textS s)) ∧ Below w.heap.size w w' := by
  have c := fun W => refText_any s W hs
  generalize textS s = t at *
  generalize textE s = x at *
  go_enter Try.func36, Try.ntmps36
  go_wp2_with (go_at_call 50; refine (c _).mono ?_; rintro e w1 ⟨rfl, hb⟩)
  go_ret
  exact ⟨rfl, hb⟩

theorem put_gone : putS 1 1 = ⟨#[1]⟩ := by decide +kernel
theorem put_stays : putS 0 1 = ⟨#[0]⟩ := by decide +kernel

theorem to_gone {cs : List Chg} {j : Nat} {k v : ByteArray} (h : cs[j]? = some (k, v, true)) : cat (partsTo cs (j + 1)) = cat (partsTo cs j) ++ ⟨#[1]⟩ ++ textS k := by
  rw [partsTo_next h, cat_append, ← put_gone, ByteArray.append_assoc]
  show _ ++ cat [putS 1 1, textS k] = _
  rw [cat_two]
theorem to_stays {cs : List Chg} {j : Nat} {k v : ByteArray} (h : cs[j]? = some (k, v, false)) : cat (partsTo cs (j + 1)) = cat (partsTo cs j) ++ ⟨#[0]⟩ ++ textS k ++ textS v := by
  rw [partsTo_next h, cat_append, ← put_stays, ByteArray.append_assoc, ByteArray.append_assoc]
  show _ ++ cat ([putS 0 1] ++ ([textS k] ++ [textS v])) = _
  rw [cat_append, cat_append, cat_one, cat_one, cat_one]

set_option maxRecDepth 20000 in
set_option maxHeartbeats 4000000 in
theorem refRingPack_any (a : Option Addr) (c n : Nat) (cs : List Chg) (w : World) (hn : n = cs.length) (hC : IsC w a c cs) :
    Calls Try.prog 19 #[.slice a n c] w fun e w' => e = .returned (.tuple #[.string (packR cs), .int .i64 (packE cs)]) ∧ Below w.heap.size w w' := by
  have HC : Hid (IsC w a c cs) := hC
  have HN : Hid (n = cs.length) := hn
  have hnb : n ≤ 9223372036854775807 := by have := hC.1; have := hC.2.1; unfold maxLen at *; omega
  have eE : Hid (packE cs = if cs.all mayC then (if n ≤ 255 then (if (packS cs).size ≤ 480 then 0 else 2) else 2) else 1) := by show _ = _; rw [hn]; rfl
  have eP : Hid (packR cs = if packE cs = 0 then packS cs else ⟨#[]⟩) := rfl
  obtain ⟨R, hR⟩ : ∃ R, R = packR cs := ⟨_, rfl⟩
  obtain ⟨E, hE⟩ : ∃ E, E = packE cs := ⟨_, rfl⟩
  rw [← hR, ← hE]
  rw [← hR, ← hE] at eP
  rw [← hE] at eE
  clear hn hC hR hE
  go_enter Try.func19, Try.ntmps19
  go_wp2
  go_loopw [11] (fun v wr => ∃ j : Nat, j ≤ n ∧ v = .int .i64 j ∧ (∀ (i : Nat) x, i < j → cs[i]? = some x → mayC x = true) ∧ Below w.heap.size w wr) (fun v _ => n - (intOf v).toNat)
  case atStart => exact ⟨0, by omega, rfl, fun i x hi => by omega, Below.refl _ _⟩
  case round =>
    obtain ⟨j, hj, rfl, hA, hB⟩ := hrel
    have HA : Hid (∀ (i : Nat) x, i < j → cs[i]? = some x → mayC x = true) := hA
    clear hA
    by_cases hlt : j < n
    · obtain ⟨⟨k, v, g⟩, hx⟩ : ∃ x, cs[j]? = some x := ⟨_, List.getElem?_eq_getElem (by rw [← HN.out]; exact hlt)⟩
      obtain ⟨bk, o, rfl, hbk, d0, d1, d2, mk, mv⟩ := HC.out.2.2 j _ hx
      replace d0 := cell_below hB d0
      replace d1 := cell_below hB d1
      replace d2 := cell_below hB d2
      have c1 := fun W => isChange_any k v g W mk mv
      have HX : Hid (cs[j]? = some (k, v, g)) := hx
      have hjn : (j : Int) < n := by omega
      have P := box3_new wr (.string k) (.string v) (.bool g) 68
      obtain ⟨⟨p0, p1, p2⟩, -⟩ := id P
      have hB2 : Below w.heap.size w (wr.alloc (.cells #[.string k, .string v, .bool g] 68)) := hB.alloc hB.size _
      clear hx hbk mk mv
      cases hm : mayC (k, v, g) with
      | true =>
        rw [hm] at c1
        replace hm : Hid _ := hm
        go_wp2_with (go_at_call 35; refine (c1 _).mono ?_; rintro e w2 ⟨rfl, hb⟩; replace hB2 := Below.tr hB2 hb; clear hb)
        go_roundw
        case rel =>
          refine ⟨j + 1, by omega, by go_num, fun i x hi hx => ?_, hB2⟩
          by_cases hij : i = j
          · subst hij
            rw [HX.out] at hx
            obtain rfl := Option.some.inj hx
            exact hm.out
          · exact HA.out i x (by omega) hx
        case measure => simp [intOf]; omega
      | false =>
        have hall : Hid (cs.all mayC = false) := by
          show _ = _
          rw [Bool.eq_false_iff]
          intro hh
          have := List.all_eq_true.1 hh _ (List.mem_of_getElem? HX.out)
          rw [hm] at this
          cases this
        have hE1 : Hid (R = ⟨#[]⟩ ∧ E = 1) := by
          have h1 : E = 1 := by rw [eE.out, hall.out]; rfl
          exact ⟨by rw [eP.out, h1]; rfl, h1⟩
        rw [hm] at c1
        clear hm
        go_wp2_with (go_at_call 35; refine (c1 _).mono ?_; rintro e w2 ⟨rfl, hb⟩; replace hB2 := Below.tr hB2 hb; clear hb)
        go_ret2
        exact ⟨by rw [hE1.out.1, hE1.out.2]; rfl, hB2⟩
    · obtain rfl : j = n := by omega
      have hall : Hid (cs.all mayC = true) := by
        show _ = _
        rw [List.all_eq_true]
        intro x hx
        obtain ⟨i, hi⟩ := List.getElem?_of_mem hx
        have hlt := (List.getElem?_eq_some_iff.1 hi).1
        exact HA.out i x (by rw [HN.out]; exact hlt) hi
      rw [hall.out, if_pos rfl] at eE
      clear HA hlt hj hall
      by_cases h2 : j ≤ 255
      · have h2' : (j : Int) ≤ 255 := by omega
        rw [if_pos h2] at eE
        have hcv := fun W => conv_row W (putL j 1) 1 (putL_length _ _) 1
        rw [putOne j h2, putOneS j h2] at hcv
        have hP0 : Hid (cat (partsTo cs 0) = putS j 1) := by show _ = _; unfold partsTo; rw [← HN.out]; simp [partsC]; exact cat_one _
        have hPn : Hid (cat (partsTo cs j) = packS cs) := by show _ = _; rw [HN.out]; exact partsTo_all cs
        have hPb : Hid (∀ i, (cat (partsTo cs i)).size ≤ 60000000) := fun i => partsTo_cat cs i (by rw [← HN.out]; omega)
        have hby : IntKind.u8.wrap (j : Int) = j := by show (j : Int) % 256 = j; omega
        generalize putS (j : Int) 1 = q at *
        have hB1 : Hid (Below w.heap.size w (wr.alloc (.cells #[.int .u8 (j : Int)] 5))) := hB.alloc hB.size _
        clear hB
        go_wp2
        go_loopw [6, 29] (fun b v wr => ∃ i : Nat, i ≤ j ∧ v = .int .i64 i ∧ b = .string (cat (partsTo cs i)) ∧ Below w.heap.size w wr) (fun _ v _ => j - (intOf v).toNat)
        case atStart => exact ⟨0, by omega, rfl, by rw [hP0.out], hB1.out⟩
        case round =>
          clear hB1
          obtain ⟨i, hi, rfl, rfl, hB⟩ := hrel
          by_cases hlt : i < j
          · obtain ⟨⟨k, v, g⟩, hx⟩ : ∃ x, cs[i]? = some x := ⟨_, List.getElem?_eq_getElem (by rw [← HN.out]; exact hlt)⟩
            obtain ⟨bk, o, rfl, hbk, d0, d1, d2, mk, mv⟩ := HC.out.2.2 i _ hx
            replace d0 := cell_below hB d0
            replace d1 := cell_below hB d1
            replace d2 := cell_below hB d2
            have cK := fun W => refRingText_any k W mk
            have cV := fun W => refRingText_any v W mv
            have zK := textS_le65 k
            have zV := textS_le65 v
            have zS := hPb.out i
            have HX : Hid (cs[i]? = some (k, v, g)) := hx
            have hin : (i : Int) < j := by omega
            have P := box3_new wr (.string k) (.string v) (.bool g) 68
            obtain ⟨⟨p0, p1, p2⟩, -⟩ := id P
            have hB2 : Below w.heap.size w (wr.alloc (.cells #[.string k, .string v, .bool g] 68)) := hB.alloc hB.size _
            clear hx hbk mk mv P hB
            cases g with
            | true =>
              have hnx : Hid (cat (partsTo cs (i + 1)) = cat (partsTo cs i) ++ ⟨#[1]⟩ ++ textS k) := to_gone HX.out
              generalize cat (partsTo cs i) = t at *
              generalize textS k = tk at *
              clear cV zV
              go_wp2_with (go_at_call 36; refine (cK _).mono ?_; rintro e w2 ⟨rfl, hb⟩; replace hB2 := Below.tr hB2 hb; clear hb)
              go_roundw
              case rel => exact ⟨i + 1, by omega, by go_num, by rw [hnx.out], hB2⟩
              case measure => simp [intOf]; omega
            | false =>
              have hnx : Hid (cat (partsTo cs (i + 1)) = cat (partsTo cs i) ++ ⟨#[0]⟩ ++ textS k ++ textS v) := to_stays HX.out
              generalize cat (partsTo cs i) = t at *
              generalize textS k = tk at *
              generalize textS v = tv at *
              have tok1 : True := trivial
              have a1 : ¬ 9223372036854775807 < t.size + (⟨#[0]⟩ : ByteArray).size := by show ¬ _ < t.size + 1; omega
              have a2 : ¬ 9223372036854775807 < (t ++ ⟨#[0]⟩).size + tk.size := by rw [ByteArray.size_append]; show ¬ _ < t.size + 1 + _; omega
              have a3 : ¬ 9223372036854775807 < (t ++ ⟨#[0]⟩ ++ tk).size + tv.size := by rw [ByteArray.size_append, ByteArray.size_append]; show ¬ _ < t.size + 1 + _ + _; omega
              have b1 : ¬ 9223372036854775807 < t.size + 1 := by omega
              have b2 : ¬ 9223372036854775807 < t.size + 1 + tk.size := by omega
              have b3 : ¬ 9223372036854775807 < t.size + 1 + tk.size + tv.size := by omega
              go_wp2
              replace hB2 := hB2.drew
              replace p0 : (wr.alloc (.cells #[.string k, .string v, .bool false] 68)).drew.cell? ⟨wr.heap.size, 0, none⟩ = some (.string k) := p0
              replace p1 : (wr.alloc (.cells #[.string k, .string v, .bool false] 68)).drew.cell? ⟨wr.heap.size, 1, none⟩ = some (.string v) := p1
              go_region_held3 (fun V => V.cell? ⟨wr.heap.size, 0, none⟩ = some (.string k) ∧ V.cell? ⟨wr.heap.size, 1, none⟩ = some (.string v)) (exact ⟨p0, p1⟩) (first
                | (go_at_call 36; have _t := tok1; refine (cK _).mono ?_; rintro e w2 ⟨rfl, hb⟩; replace p0 := cell_below hb p0; replace p1 := cell_below hb p1; replace hB2 := Below.tr hB2 hb; clear hb tok1 _t)
                | (go_at_call 36; refine (cV _).mono ?_; rintro e w4 ⟨rfl, hb⟩; replace p0 := cell_below hb p0; replace p1 := cell_below hb p1; replace hB2 := Below.tr hB2 hb; clear hb))
              go_wp2
              go_roundw
              case rel => exact ⟨i + 1, by omega, by go_num, by rw [hnx.out], hB2⟩
              case measure => simp [intOf]; omega
          · obtain rfl : i = j := by omega
            have zS := hPb.out i
            rw [hPn.out] at zS ⊢
            clear hPn hP0 hPb
            generalize packS cs = z at *
            by_cases h3 : z.size ≤ 480
            · have h3' : (z.size : Int) ≤ 480 := by omega
              rw [if_pos h3] at eE
              have hE1 : Hid (R = z ∧ E = 0) := ⟨by rw [eP.out, eE.out]; rfl, eE.out⟩
              go_wp2
              go_ret2
              exact ⟨by rw [hE1.out.1, hE1.out.2]; rfl, hB⟩
            · have h3' : ¬ (z.size : Int) ≤ 480 := by omega
              rw [if_neg h3] at eE
              have hE1 : Hid (R = ⟨#[]⟩ ∧ E = 2) := ⟨by rw [eP.out, eE.out]; rfl, eE.out⟩
              go_wp2
              go_ret2
              exact ⟨by rw [hE1.out.1, hE1.out.2]; rfl, hB⟩
      · have h2' : ¬ (j : Int) ≤ 255 := by omega
        rw [if_neg h2] at eE
        have hE1 : Hid (R = ⟨#[]⟩ ∧ E = 2) := ⟨by rw [eP.out, eE.out]; rfl, eE.out⟩
        go_wp2
        go_ret2
        exact ⟨by rw [hE1.out.1, hE1.out.2]; rfl, hB⟩

end Go.Proofs.Ytcdcnonkoffbhaa
