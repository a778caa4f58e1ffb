/-
  The walk through the statement RingBack.
-/
import Derived.Test.YtcdcnonkoffbhaaRingBody
import Derived.Test.YtcdcnonkoffbhaaRingUnpack
import Derived.Test.YtcdcnonkoffbhaaRingRefUnp
namespace Go.Proofs.Ytcdcnonkoffbhaa
open Go.RowKit Plain
set_option linter.unusedVariables false

set_option maxRecDepth 20000 in
set_option maxHeartbeats 2000000 in
theorem ringBack_walk (g n : Int) (b : ByteArray) (a : Option Addr) (c : Nat) (xs : List Chg) (w : World) (wg : (Lit.int .i64 g).wf = true) (wn : (Lit.int .i64 n).wf = true) (hb0 : b.size ≤ maxLen) (hC : IsC w a c xs) :
    Calls Try.prog 6 #[.int .i64 g, .int .i64 n, .string b, .slice a xs.length c] w fun e w' => e = .returned (.bool true) ∧ Below w.heap.size w w' := by
  obtain ⟨l, hl⟩ : ∃ l, l = xs.length := ⟨_, rfl⟩
  obtain ⟨k, hk⟩ : ∃ k, k = fewN l := ⟨_, rfl⟩
  obtain ⟨cs, hcs⟩ : ∃ cs, cs = xs.take k := ⟨_, rfl⟩
  have hC' : IsC w a c cs := by rw [hcs]; exact hC.take k
  have hkc : k = cs.length := by rw [hcs, List.length_take]; have := (fewN_le l).1; omega
  have c0 : ∀ W, Calls Try.prog 17 #[.slice a l c] W fun e w' => e = .returned (.slice a k c) ∧ W = w' := by
    intro W
    rw [hk]
    exact few13_any a c l W (by rw [hl]; exact hC.1) hC.2.1
  have c1 := fun W => ringPut_any g n b W hb0
  have c4 : ∀ W, Below w.heap.size w W → Calls Try.prog 18 #[.slice a k c] W fun e w' => e = .returned (.tuple #[.string (packR cs), .int .i64 (packE cs)]) ∧ Below W.heap.size W w' := fun W hB => ringPack_any a c k cs W hkc (hC'.below hB)
  have c5 := fun W => ringUnpack_any b W hb0
  have c7 := alive13_any
  -- what is put
  have hput : Hid (recE g n b = 0 → (∀ W, Calls Try.prog 11 #[.string (recS g n b), .int .i64 g] W fun e w' => e = .returned (.tuple #[.int .i64 n, .string b, .int .i64 0]) ∧ Below W.heap.size W w') ∧ (∀ W, Calls Try.prog 11 #[.string (recS g n b), .int .i64 (g + 1)] W fun e w' => e = .returned (.tuple #[.int .i64 0, .string ⟨#[]⟩, .int .i64 4]) ∧ Below W.heap.size W w') ∧ (recS g n b).size ≤ 494 ∧ 1 ≤ g ∧ g ≤ 1099511627776) := by
    intro h
    have hz := rec_size g n b
    have hr := (rightR_iff _ _).1 (recE_ok h).1
    obtain ⟨r1, r2, r3⟩ := rec_back h
    have r4 := rec_other h (g' := g + 1) (by omega)
    refine ⟨fun W => ?_, fun W => ?_, hz, hr.1.1, hr.1.2⟩
    · have := ringGet_any (recS g n b) g W (by unfold maxLen; omega)
      rw [r1, r2, r3] at this
      exact this
    · have := ringGet_any (recS g n b) (g + 1) W (by unfold maxLen; omega)
      rw [rgN, rgB, r4, if_neg (by decide), if_neg (by decide)] at this
      exact this
  -- what is packed
  have hpack : Hid (packE cs = 0 → (∀ W, Calls Try.prog 20 #[.string (packR cs)] W fun x w' => ∃ a c, x = .returned (.tuple #[.slice a k c, .int .i64 0]) ∧ IsC w' a c cs ∧ Below W.heap.size W w') ∧ (∀ W a1 k1, IsC W a1 k1 cs → Below w.heap.size w W → Calls Try.prog 22 #[.slice a1 k k1, .slice a k c] W fun e w' => e = .returned (.bool true) ∧ Below W.heap.size W w') ∧ (packR cs).size ≤ 480) := by
    intro h
    have eR : packR cs = packS cs := by rw [packR, if_pos h]
    obtain ⟨u1, u2⟩ := unp_back h
    have hz := (packE_ok h).2.2
    refine ⟨fun W => ?_, fun W a1 k1 h1 hB => ringLike_same a1 a k1 c k cs W hkc h1 (hC'.below hB), by rw [eR]; exact hz⟩
    have := ringUnpack_any (packS cs) W (by unfold maxLen; omega)
    rw [u1, u2, ← hkc] at this
    rw [eR]
    exact this
  -- what is unpacked
  obtain ⟨us, hus⟩ : ∃ us, us = unpL b := ⟨_, rfl⟩
  obtain ⟨m, hm⟩ : ∃ m, m = us.length := ⟨_, rfl⟩
  have hunp : Hid (unpE b = 0 → ∀ W a2 k2, IsC W a2 k2 us → Calls Try.prog 18 #[.slice a2 m k2] W fun e w' => e = .returned (.tuple #[.string b, .int .i64 0]) ∧ Below W.heap.size W w') := by
    intro h W a2 k2 h2
    obtain ⟨o1, o2⟩ := unp_once h
    have := ringPack_any a2 k2 m us W hm h2
    rw [hus, packR, o1, if_pos rfl, o2] at this
    exact this
  have hun0 : Hid (¬ unpE b = 0 → m = 0) := by
    intro h
    rw [hm, hus, unpL, if_neg h]; rfl
  rw [← hus, ← hm] at c5
  rw [← hl]
  generalize packR cs = R at *
  generalize packE cs = E at *
  generalize unpE b = F at *
  generalize recS g n b = q at *
  generalize recE g n b = D at *
  have hB := Below.refl w.heap.size w
  have tok1 : True := trivial
  have tok2 : True := trivial
  have tok3 : True := trivial
  clear hl hk hcs hC hC' hkc hus hm hb0 wg wn
  by_cases hD : D = 0
  · obtain ⟨c2, c3, hz, g1, g2⟩ := hput.out hD
    have hz' : (q.size : Int) ≤ 512 := by omega
    have hz2 : q.size ≤ 9223372036854775807 := by omega
    have hgw : IntKind.i64.wrap (g + 1) = g + 1 := i64_in _ (by omega) (by omega)
    subst hD
    clear hput
    by_cases hE : E = 0
    · obtain ⟨c8, c9, hy⟩ := hpack.out hE
      have hy' : (R.size : Int) ≤ 480 := by omega
      have hy2 : R.size ≤ 9223372036854775807 := by omega
      subst hE
      clear hpack
      by_cases hF : F = 0
      · have c6 := hunp.out hF
        subst hF
        clear hunp hun0
        go_enter Try.func6, Try.ntmps6
        go_wp2_with (first
  | (go_at_call 17; refine (c0 _).mono ?_; rintro y w' ⟨rfl, rfl⟩)
  | (go_at_call 9; refine (c1 _).mono ?_; rintro y w1 ⟨rfl, hb⟩; replace hB := Below.tr hB hb; clear hb)
  | (go_at_call 11; have _t := tok1; refine (c2 _).mono ?_; rintro y w2 ⟨rfl, hb⟩; replace hB := Below.tr hB hb; clear hb tok1 _t)
  | (go_at_call 11; refine (c3 _).mono ?_; rintro y w3 ⟨rfl, hb⟩; replace hB := Below.tr hB hb; clear hb)
  | (go_at_call 18; have _t := tok2; refine (c4 _ hB).mono ?_; rintro y w4 ⟨rfl, hb⟩; replace hB := Below.tr hB hb; clear hb tok2 _t)
  | (go_at_call 20; have _t := tok3; refine (c8 _).mono ?_; rintro y w5 ⟨a1, k1, rfl, h1, hb⟩; replace hB := Below.tr hB hb; clear hb tok3 _t)
  | (go_at_call 22; refine (c9 _ _ _ h1 hB).mono ?_; rintro y w9 ⟨rfl, hb⟩; replace hB := Below.tr hB hb; clear hb)
  | (go_at_call 20; refine (c5 _).mono ?_; rintro y w6 ⟨a2, k2, rfl, h2, hb⟩; replace hB := Below.tr hB hb; clear hb)
  | (go_at_call 18; refine (c6 _ _ _ h2).mono ?_; rintro y w8 ⟨rfl, hb⟩; replace hB := Below.tr hB hb; clear hb)
  | (go_at_call 13; refine (c7 _).mono ?_; rintro y w7 ⟨rfl, hb⟩; replace hB := Below.tr hB hb; clear hb)
          )
        go_ret
        exact ⟨ret_bool (by simp), hB⟩
      · obtain rfl := hun0.out hF
        have hF' : (F == 0) = false := by simpa using hF
        clear hunp hun0
        go_enter Try.func6, Try.ntmps6
        go_wp2_with (first
  | (go_at_call 17; refine (c0 _).mono ?_; rintro y w' ⟨rfl, rfl⟩)
  | (go_at_call 9; refine (c1 _).mono ?_; rintro y w1 ⟨rfl, hb⟩; replace hB := Below.tr hB hb; clear hb)
  | (go_at_call 11; have _t := tok1; refine (c2 _).mono ?_; rintro y w2 ⟨rfl, hb⟩; replace hB := Below.tr hB hb; clear hb tok1 _t)
  | (go_at_call 11; refine (c3 _).mono ?_; rintro y w3 ⟨rfl, hb⟩; replace hB := Below.tr hB hb; clear hb)
  | (go_at_call 18; have _t := tok2; refine (c4 _ hB).mono ?_; rintro y w4 ⟨rfl, hb⟩; replace hB := Below.tr hB hb; clear hb tok2 _t)
  | (go_at_call 20; have _t := tok3; refine (c8 _).mono ?_; rintro y w5 ⟨a1, k1, rfl, h1, hb⟩; replace hB := Below.tr hB hb; clear hb tok3 _t)
  | (go_at_call 22; refine (c9 _ _ _ h1 hB).mono ?_; rintro y w9 ⟨rfl, hb⟩; replace hB := Below.tr hB hb; clear hb)
  | (go_at_call 20; refine (c5 _).mono ?_; rintro y w6 ⟨a2, k2, rfl, h2, hb⟩; replace hB := Below.tr hB hb; clear hb)
  | (go_at_call 13; refine (c7 _).mono ?_; rintro y w7 ⟨rfl, hb⟩; replace hB := Below.tr hB hb; clear hb)
          )
        go_ret
        exact ⟨ret_bool (by simp), hB⟩
    · have hE' : (E == 0) = false := by simpa using hE
      clear hpack
      by_cases hF : F = 0
      · have c6 := hunp.out hF
        subst hF
        clear hunp hun0
        go_enter Try.func6, Try.ntmps6
        go_wp2_with (first
  | (go_at_call 17; refine (c0 _).mono ?_; rintro y w' ⟨rfl, rfl⟩)
  | (go_at_call 9; refine (c1 _).mono ?_; rintro y w1 ⟨rfl, hb⟩; replace hB := Below.tr hB hb; clear hb)
  | (go_at_call 11; have _t := tok1; refine (c2 _).mono ?_; rintro y w2 ⟨rfl, hb⟩; replace hB := Below.tr hB hb; clear hb tok1 _t)
  | (go_at_call 11; refine (c3 _).mono ?_; rintro y w3 ⟨rfl, hb⟩; replace hB := Below.tr hB hb; clear hb)
  | (go_at_call 18; have _t := tok2; refine (c4 _ hB).mono ?_; rintro y w4 ⟨rfl, hb⟩; replace hB := Below.tr hB hb; clear hb tok2 _t)
  | (go_at_call 20; refine (c5 _).mono ?_; rintro y w6 ⟨a2, k2, rfl, h2, hb⟩; replace hB := Below.tr hB hb; clear hb)
  | (go_at_call 18; refine (c6 _ _ _ h2).mono ?_; rintro y w8 ⟨rfl, hb⟩; replace hB := Below.tr hB hb; clear hb)
  | (go_at_call 13; refine (c7 _).mono ?_; rintro y w7 ⟨rfl, hb⟩; replace hB := Below.tr hB hb; clear hb)
          )
        go_ret
        exact ⟨ret_bool (by simp), hB⟩
      · obtain rfl := hun0.out hF
        have hF' : (F == 0) = false := by simpa using hF
        clear hunp hun0
        go_enter Try.func6, Try.ntmps6
        go_wp2_with (first
  | (go_at_call 17; refine (c0 _).mono ?_; rintro y w' ⟨rfl, rfl⟩)
  | (go_at_call 9; refine (c1 _).mono ?_; rintro y w1 ⟨rfl, hb⟩; replace hB := Below.tr hB hb; clear hb)
  | (go_at_call 11; have _t := tok1; refine (c2 _).mono ?_; rintro y w2 ⟨rfl, hb⟩; replace hB := Below.tr hB hb; clear hb tok1 _t)
  | (go_at_call 11; refine (c3 _).mono ?_; rintro y w3 ⟨rfl, hb⟩; replace hB := Below.tr hB hb; clear hb)
  | (go_at_call 18; have _t := tok2; refine (c4 _ hB).mono ?_; rintro y w4 ⟨rfl, hb⟩; replace hB := Below.tr hB hb; clear hb tok2 _t)
  | (go_at_call 20; refine (c5 _).mono ?_; rintro y w6 ⟨a2, k2, rfl, h2, hb⟩; replace hB := Below.tr hB hb; clear hb)
  | (go_at_call 13; refine (c7 _).mono ?_; rintro y w7 ⟨rfl, hb⟩; replace hB := Below.tr hB hb; clear hb)
          )
        go_ret
        exact ⟨ret_bool (by simp), hB⟩
  · have hD' : (D == 0) = false := by simpa using hD
    clear hput
    by_cases hE : E = 0
    · obtain ⟨c8, c9, hy⟩ := hpack.out hE
      have hy' : (R.size : Int) ≤ 480 := by omega
      have hy2 : R.size ≤ 9223372036854775807 := by omega
      subst hE
      clear hpack
      by_cases hF : F = 0
      · have c6 := hunp.out hF
        subst hF
        clear hunp hun0
        go_enter Try.func6, Try.ntmps6
        go_wp2_with (first
  | (go_at_call 17; refine (c0 _).mono ?_; rintro y w' ⟨rfl, rfl⟩)
  | (go_at_call 9; refine (c1 _).mono ?_; rintro y w1 ⟨rfl, hb⟩; replace hB := Below.tr hB hb; clear hb)
  | (go_at_call 18; have _t := tok2; refine (c4 _ hB).mono ?_; rintro y w4 ⟨rfl, hb⟩; replace hB := Below.tr hB hb; clear hb tok2 _t)
  | (go_at_call 20; have _t := tok3; refine (c8 _).mono ?_; rintro y w5 ⟨a1, k1, rfl, h1, hb⟩; replace hB := Below.tr hB hb; clear hb tok3 _t)
  | (go_at_call 22; refine (c9 _ _ _ h1 hB).mono ?_; rintro y w9 ⟨rfl, hb⟩; replace hB := Below.tr hB hb; clear hb)
  | (go_at_call 20; refine (c5 _).mono ?_; rintro y w6 ⟨a2, k2, rfl, h2, hb⟩; replace hB := Below.tr hB hb; clear hb)
  | (go_at_call 18; refine (c6 _ _ _ h2).mono ?_; rintro y w8 ⟨rfl, hb⟩; replace hB := Below.tr hB hb; clear hb)
  | (go_at_call 13; refine (c7 _).mono ?_; rintro y w7 ⟨rfl, hb⟩; replace hB := Below.tr hB hb; clear hb)
          )
        go_ret
        exact ⟨ret_bool (by simp), hB⟩
      · obtain rfl := hun0.out hF
        have hF' : (F == 0) = false := by simpa using hF
        clear hunp hun0
        go_enter Try.func6, Try.ntmps6
        go_wp2_with (first
  | (go_at_call 17; refine (c0 _).mono ?_; rintro y w' ⟨rfl, rfl⟩)
  | (go_at_call 9; refine (c1 _).mono ?_; rintro y w1 ⟨rfl, hb⟩; replace hB := Below.tr hB hb; clear hb)
  | (go_at_call 18; have _t := tok2; refine (c4 _ hB).mono ?_; rintro y w4 ⟨rfl, hb⟩; replace hB := Below.tr hB hb; clear hb tok2 _t)
  | (go_at_call 20; have _t := tok3; refine (c8 _).mono ?_; rintro y w5 ⟨a1, k1, rfl, h1, hb⟩; replace hB := Below.tr hB hb; clear hb tok3 _t)
  | (go_at_call 22; refine (c9 _ _ _ h1 hB).mono ?_; rintro y w9 ⟨rfl, hb⟩; replace hB := Below.tr hB hb; clear hb)
  | (go_at_call 20; refine (c5 _).mono ?_; rintro y w6 ⟨a2, k2, rfl, h2, hb⟩; replace hB := Below.tr hB hb; clear hb)
  | (go_at_call 13; refine (c7 _).mono ?_; rintro y w7 ⟨rfl, hb⟩; replace hB := Below.tr hB hb; clear hb)
          )
        go_ret
        exact ⟨ret_bool (by simp), hB⟩
    · have hE' : (E == 0) = false := by simpa using hE
      clear hpack
      by_cases hF : F = 0
      · have c6 := hunp.out hF
        subst hF
        clear hunp hun0
        go_enter Try.func6, Try.ntmps6
        go_wp2_with (first
  | (go_at_call 17; refine (c0 _).mono ?_; rintro y w' ⟨rfl, rfl⟩)
  | (go_at_call 9; refine (c1 _).mono ?_; rintro y w1 ⟨rfl, hb⟩; replace hB := Below.tr hB hb; clear hb)
  | (go_at_call 18; have _t := tok2; refine (c4 _ hB).mono ?_; rintro y w4 ⟨rfl, hb⟩; replace hB := Below.tr hB hb; clear hb tok2 _t)
  | (go_at_call 20; refine (c5 _).mono ?_; rintro y w6 ⟨a2, k2, rfl, h2, hb⟩; replace hB := Below.tr hB hb; clear hb)
  | (go_at_call 18; refine (c6 _ _ _ h2).mono ?_; rintro y w8 ⟨rfl, hb⟩; replace hB := Below.tr hB hb; clear hb)
  | (go_at_call 13; refine (c7 _).mono ?_; rintro y w7 ⟨rfl, hb⟩; replace hB := Below.tr hB hb; clear hb)
          )
        go_ret
        exact ⟨ret_bool (by simp), hB⟩
      · obtain rfl := hun0.out hF
        have hF' : (F == 0) = false := by simpa using hF
        clear hunp hun0
        go_enter Try.func6, Try.ntmps6
        go_wp2_with (first
  | (go_at_call 17; refine (c0 _).mono ?_; rintro y w' ⟨rfl, rfl⟩)
  | (go_at_call 9; refine (c1 _).mono ?_; rintro y w1 ⟨rfl, hb⟩; replace hB := Below.tr hB hb; clear hb)
  | (go_at_call 18; have _t := tok2; refine (c4 _ hB).mono ?_; rintro y w4 ⟨rfl, hb⟩; replace hB := Below.tr hB hb; clear hb tok2 _t)
  | (go_at_call 20; refine (c5 _).mono ?_; rintro y w6 ⟨a2, k2, rfl, h2, hb⟩; replace hB := Below.tr hB hb; clear hb)
  | (go_at_call 13; refine (c7 _).mono ?_; rintro y w7 ⟨rfl, hb⟩; replace hB := Below.tr hB hb; clear hb)
          )
        go_ret
        exact ⟨ret_bool (by simp), hB⟩

end Go.Proofs.Ytcdcnonkoffbhaa
