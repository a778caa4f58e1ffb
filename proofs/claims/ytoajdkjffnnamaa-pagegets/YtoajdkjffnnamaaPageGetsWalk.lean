/-
  The walk through the statement PageGets.
-/
import Derived.Test.YtoajdkjffnnamaaPageWant
import Derived.Test.YtoajdkjffnnamaaPageRefGet
import Derived.Test.YtoajdkjffnnamaaPageOpen
namespace Go.Proofs.Ytoajdkjffnnamaa
open Go.RowKit Plain
set_option linter.unusedVariables false

set_option maxHeartbeats 1000000 in
theorem pageGets_walk (s : ByteArray) (a : Option Addr) (c : Nat) (ms : List Int) (w : World) (hs : s.size ≤ maxLen) (hI : IsI w a c ms) :
    Calls Try.prog 4 #[.string s, .slice a ms.length c] w fun e w' => e = .returned (.bool true) ∧ Below w.heap.size w w' := by
  have c1 := fun W => pageGet_any s W hs
  have c2 := fun W => refPageGet_any s W hs
  have c3 := alive_any
  obtain ⟨ns, hns⟩ : ∃ ns, ns = ms.take 10 := ⟨_, rfl⟩
  have hJ : IsI w a c ns := by rw [hns]; exact hI.take 10
  obtain ⟨n, hn⟩ : ∃ n, n = ns.length := ⟨_, rfl⟩
  have hmin : min (ms.length : Int) 10 = (n : Int) := by rw [hn, hns, List.length_take]; omega
  have hl : n ≤ 10 := by rw [hn, hns, List.length_take]; omega
  have hnc : n ≤ c := by rw [hn]; exact hJ.1
  have hm : ms.length ≤ 9223372036854775807 := Nat.le_trans hI.1 hI.2.1
  have hc' : c ≤ 9223372036854775807 := hI.2.1
  have cw : ∀ W, Below w.heap.size w W → Calls Try.prog 14 #[.string s, .slice a n c] W fun e w' => e = .returned (.tuple #[.agg #[.int .i64 (wantK s ns), .int .i64 (wantG s ns), .string (wantB s ns)], .int .i64 (wantE s ns)]) ∧ Below W.heap.size W w' := by
    rw [hn]; exact fun W hW => want_any s a c ns W hs (hJ.below hW)
  have HN : Hid (n = ns.length) := hn
  have HJ : Hid (IsI w a c ns) := hJ
  obtain ⟨l, hll⟩ : ∃ l, l = ms.length := ⟨_, rfl⟩
  rw [← hll] at hmin hm ⊢
  have hlc : l ≤ c := by rw [hll]; exact hI.1
  clear hns hI hJ hn hll
  have hB : Below w.heap.size w w := Below.refl _ _
  have xE : Hid (wantE s ns = if readE s = 0 then (if readK s ∈ ns then 0 else 40) else readE s) := rfl
  have xK : Hid (wantK s ns = if wantE s ns = 0 then readK s else 0) := rfl
  have xG : Hid (wantG s ns = if wantE s ns = 0 then readG s else 0) := rfl
  have xB : Hid (wantB s ns = if wantE s ns = 0 then readB s else ⟨#[]⟩) := rfl
  obtain ⟨E, hE⟩ : ∃ E, E = readE s := ⟨_, rfl⟩
  obtain ⟨K, hK⟩ : ∃ K, K = readK s := ⟨_, rfl⟩
  obtain ⟨G, hG⟩ : ∃ G, G = readG s := ⟨_, rfl⟩
  obtain ⟨B, hBe⟩ : ∃ B, B = readB s := ⟨_, rfl⟩
  obtain ⟨EW, hEW⟩ : ∃ E, E = wantE s ns := ⟨_, rfl⟩
  obtain ⟨KW, hKW⟩ : ∃ K, K = wantK s ns := ⟨_, rfl⟩
  obtain ⟨GW, hGW⟩ : ∃ G, G = wantG s ns := ⟨_, rfl⟩
  obtain ⟨BW, hBW⟩ : ∃ B, B = wantB s ns := ⟨_, rfl⟩
  rw [← hE, ← hK, ← hG, ← hBe] at c1 c2
  rw [← hEW, ← hKW, ← hGW, ← hBW] at cw
  rw [← hE, ← hK, ← hEW] at xE
  rw [← hK, ← hEW, ← hKW] at xK
  rw [← hG, ← hEW, ← hGW] at xG
  rw [← hBe, ← hEW, ← hBW] at xB
  clear hE hK hG hBe hEW hKW hGW hBW
  have tok1 : True := trivial
  by_cases h0 : E = 0
  · go_enter Try.func4, Try.ntmps4
    go_wp2_with (first
      | (go_at_call 12; refine (c1 _).mono ?_; rintro e w1 ⟨rfl, hb⟩; replace hB := Below.tr hB hb; replace hB := hB.alloc hB.size (.cells #[.int .i64 K, .int .i64 G, .string B] 23); have P := box3_new w1 (.int .i64 K) (.int .i64 G) (.string B) 23; clear hb)
      | (go_at_call 13; refine (c2 _).mono ?_; rintro e w2 ⟨rfl, hb⟩; replace hB := Below.tr hB hb; replace hB := hB.alloc hB.size (.cells #[.int .i64 K, .int .i64 G, .string B] 23); replace P := (P.below hb).alloc (.cells #[.int .i64 K, .int .i64 G, .string B] 23); have Q := box3_new w2 (.int .i64 K) (.int .i64 G) (.string B) 23; clear hb)
      | (go_at_call 14; refine (cw _ hB).mono ?_; rintro e w3 ⟨rfl, hb⟩; replace hB := Below.tr hB hb; replace hB := hB.alloc hB.size (.cells #[.int .i64 KW, .int .i64 GW, .string BW] 23); replace P := (P.below hb).alloc (.cells #[.int .i64 KW, .int .i64 GW, .string BW] 23); replace Q := (Q.below hb).alloc (.cells #[.int .i64 KW, .int .i64 GW, .string BW] 23); have R := box3_new w3 (.int .i64 KW) (.int .i64 GW) (.string BW) 23; obtain ⟨⟨p0, p1, p2⟩, _⟩ := P; obtain ⟨⟨q0, q1, q2⟩, _⟩ := id Q; clear hb)
      | (go_at_call 9; refine (c3 _).mono ?_; rintro e w4 ⟨rfl, hb⟩; replace hB := Below.tr hB hb; replace Q := Q.below hb; replace R := R.below hb; obtain ⟨⟨q0, q1, q2⟩, _⟩ := Q; obtain ⟨⟨r0, r1, r2⟩, _⟩ := R; clear hb))
    have HI : Hid (IsI w4 a c ns) := HJ.out.below hB
    clear HJ
    go_loop [58] (fun u => ∃ j : Nat, j ≤ n ∧ u = .int .i64 j ∧ ∀ y ∈ ns.take j, ¬ y = K) (fun u => n - (intOf u).toNat)
    case atStart => exact ⟨0, by omega, rfl, fun y hy => by simp at hy⟩
    case round =>
      obtain ⟨j, hj, rfl, HA⟩ := hrel
      by_cases hlt : j < n
      · obtain ⟨x, hx⟩ : ∃ x, ns[j]? = some x := ⟨_, List.getElem?_eq_getElem (by rw [← HN.out]; exact hlt)⟩
        obtain ⟨b, o, rfl, hlb, hcl⟩ := HI.out.2.2 j x hx
        have hmem : Hid (x ∈ ns) := List.mem_of_getElem? hx
        have hA' : Hid (¬ K = x → ∀ y ∈ ns.take (j + 1), ¬ y = K) := not_take HA hx
        clear HA hx hlb
        have hlt' : (j : Int) < n := by omega
        by_cases he : x = K
        · have e1 : EW = 0 := by rw [xE.out, if_pos h0, if_pos (he ▸ hmem.out)]
          have e2 : KW = K := by rw [xK.out, if_pos e1]
          have e3 : GW = G := by rw [xG.out, if_pos e1]
          have e4 : BW = B := by rw [xB.out, if_pos e1]
          clear hA' hmem xE xK xG xB cw
          subst he e1 e2 e3 e4
          go_wp2
          go_ret
          exact ⟨ret_bool (by simp), hB⟩
        · have he' : (x == K) = false := by simpa using he
          go_wp2
          go_round
          case rel => exact ⟨j + 1, by omega, by go_num, hA'.out (fun h => he h.symm)⟩
          case measure => simp [intOf]; omega
      · obtain rfl : j = n := by omega
        have e1 : EW = 40 := by
          rw [xE.out, if_pos h0, if_neg]
          intro hm
          rw [HN.out, List.take_length] at HA
          exact HA _ hm rfl
        have e2 : KW = 0 := by rw [xK.out, if_neg (by rw [e1]; decide)]
        have e3 : GW = 0 := by rw [xG.out, if_neg (by rw [e1]; decide)]
        have e4 : BW = ⟨#[]⟩ := by rw [xB.out, if_neg (by rw [e1]; decide)]
        clear HA xE xK xG xB cw
        subst e1 e2 e3 e4
        go_wp2
        go_ret
        exact ⟨ret_bool (by simp), hB⟩
  · have e1 : EW = E := by rw [xE.out, if_neg h0]
    have e2 : KW = 0 := by rw [xK.out, if_neg (by rw [e1]; exact h0)]
    have e3 : GW = 0 := by rw [xG.out, if_neg (by rw [e1]; exact h0)]
    have e4 : BW = ⟨#[]⟩ := by rw [xB.out, if_neg (by rw [e1]; exact h0)]
    clear xE xK xG xB
    subst e1 e2 e3 e4
    have h0' : (EW == 0) = false := by simpa using h0
    go_enter Try.func4, Try.ntmps4
    go_wp2_with (first
      | (go_at_call 12; refine (c1 _).mono ?_; rintro e w1 ⟨rfl, hb⟩; replace hB := Below.tr hB hb; replace hB := hB.alloc hB.size (.cells #[.int .i64 K, .int .i64 G, .string B] 23); have P := box3_new w1 (.int .i64 K) (.int .i64 G) (.string B) 23; clear hb)
      | (go_at_call 13; refine (c2 _).mono ?_; rintro e w2 ⟨rfl, hb⟩; replace hB := Below.tr hB hb; replace hB := hB.alloc hB.size (.cells #[.int .i64 K, .int .i64 G, .string B] 23); replace P := (P.below hb).alloc (.cells #[.int .i64 K, .int .i64 G, .string B] 23); have Q := box3_new w2 (.int .i64 K) (.int .i64 G) (.string B) 23; clear hb)
      | (go_at_call 14; refine (cw _ hB).mono ?_; rintro e w3 ⟨rfl, hb⟩; replace hB := Below.tr hB hb; replace hB := hB.alloc hB.size (.cells #[.int .i64 0, .int .i64 0, .string ⟨#[]⟩] 23); replace P := (P.below hb).alloc (.cells #[.int .i64 0, .int .i64 0, .string ⟨#[]⟩] 23); replace Q := (Q.below hb).alloc (.cells #[.int .i64 0, .int .i64 0, .string ⟨#[]⟩] 23); have R := box3_new w3 (.int .i64 0) (.int .i64 0) (.string ⟨#[]⟩) 23; obtain ⟨⟨p0, p1, p2⟩, _⟩ := P; obtain ⟨⟨q0, q1, q2⟩, _⟩ := id Q; clear hb)
      | (go_at_call 9; refine (c3 _).mono ?_; rintro e w4 ⟨rfl, hb⟩; replace hB := Below.tr hB hb; replace Q := Q.below hb; replace R := R.below hb; obtain ⟨⟨q0, q1, q2⟩, _⟩ := Q; obtain ⟨⟨r0, r1, r2⟩, _⟩ := R; clear hb))
    go_ret
    exact ⟨ret_bool (by simp), hB⟩

end Go.Proofs.Ytoajdkjffnnamaa
