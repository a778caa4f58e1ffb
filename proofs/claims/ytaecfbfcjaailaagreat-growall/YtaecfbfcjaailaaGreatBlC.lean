/-
  Texts laid together: NodeCut NodeRefB NodeRefGet NodeRefGetI BitsPlain BitsMem BitsBytes BitsRef BitsFind BitsWith BitsOnes AllocPlain AllocMem Anyheld AllocRight Anyorder AllocFree AllocNew AllocDo AllocRef LookHolds LookRef NodePut.
-/
import Derived.Test.YtaecfbfcjaailaaGreatBlA
import Derived.Test.YtaecfbfcjaailaaGreatBlB
import Derived.Lib.AppendZeros
import Derived.Lib.Strings
import Derived.Deep.Grids
import Derived.Laws.BitsAllLaws
import Derived.BigQuiet
import Derived.Test.YtaecfbfcjaailaaGreatRows
import Derived.Deep.RegionHeld3
import Derived.Orders
import Derived.WalkKit
import Derived.Below
import Derived.Maps.RangeWalk
namespace Go.Proofs.YtaecfbfcjaailaaGreat.Plain
open Go.RowKit
set_option linter.unusedVariables false
def findN (key : ByteArray) : List ByteArray → Nat
 | [] => 0
 | k :: ks => if ltB k key = true then findN key ks + 1 else 0
def isN (ks : List ByteArray) (key : ByteArray) : Bool := decide (ks[findN key ks]? = some key)
def kidN (ks : List ByteArray) (key : ByteArray) : Nat := ks.countP fun k => !ltB key k
theorem findN_le (key : ByteArray) (ks : List ByteArray) : findN key ks ≤ ks.length := by
 induction ks with
 | nil => exact Nat.le_refl _
 | cons k ks ih =>
  rw [findN]
  split
  ·
   simp; omega
  ·
   simp
theorem findN_ahead {key : ByteArray} {ks : List ByteArray} {j : Nat} {x : ByteArray} (hx : ks[j]? = some x) (hj : j < findN key ks) : ltB x key = true := by
 induction ks generalizing j with
 | nil => simp at hx
 | cons k ks ih =>
  rw [findN] at hj
  split at hj
  ·
   rename_i hk
   cases j with
   | zero => simp at hx; rw [← hx]; exact hk
   | succ j => exact ih (by simpa using hx) (by omega)
  ·
   omega
theorem findN_at {key : ByteArray} {ks : List ByteArray} {x : ByteArray} (hx : ks[findN key ks]? = some x) : ltB x key = false := by
 induction ks with
 | nil => simp at hx
 | cons k ks ih =>
  rw [findN] at hx
  split at hx
  ·
   exact ih (by simpa using hx)
  ·
   rename_i hk
   simp at hx
   rw [← hx]; simpa using hk
theorem findN_behind {key : ByteArray} {ks : List ByteArray} (hr : risingK ks = true) {j : Nat} {x : ByteArray} (hx : ks[j]? = some x) (hj : findN key ks ≤ j) : ltB x key = false := by
 rcases Nat.lt_or_eq_of_le hj with h | h
 ·
  obtain ⟨y, hy⟩ : ∃ y, ks[findN key ks]? = some y := ⟨_, List.getElem?_eq_getElem (by have := (List.getElem?_eq_some_iff.1 hx).1; omega)⟩
  have h1 := findN_at hy
  have h2 := rising_iff.1 hr _ _ _ _ h hy hx
  cases hc : ltB x key with
  | false => rfl
  | true => rw [ltB_trans h2 hc] at h1; cases h1
 ·
  rw [← h] at hx; exact findN_at hx
theorem findN_is {key : ByteArray} {ks : List ByteArray} {i : Nat} {x : ByteArray} (hx : ks[i]? = some x) (h : ltB x key = false) (hall : ∀ j y, j < i → ks[j]? = some y → ltB y key = true) : findN key ks = i := by
 rcases Nat.lt_trichotomy (findN key ks) i with hl | hl | hl
 ·
  obtain ⟨y, hy⟩ : ∃ y, ks[findN key ks]? = some y := ⟨_, List.getElem?_eq_getElem (by have := (List.getElem?_eq_some_iff.1 hx).1; omega)⟩
  have := findN_at hy
  rw [hall _ _ hl hy] at this
  cases this
 ·
  exact hl
 ·
  have := findN_ahead hx hl
  rw [h] at this; cases this
theorem findN_there {key : ByteArray} {ks : List ByteArray} (hr : risingK ks = true) {j : Nat} (hx : ks[j]? = some key) : findN key ks = j :=
 findN_is hx (ltB_irrefl key) fun i y hi hy => rising_iff.1 hr i j y key hi hy hx
theorem isN_iff {key : ByteArray} {ks : List ByteArray} : isN ks key = true ↔ ks[findN key ks]? = some key := by unfold isN; simp
theorem kidN_find {key : ByteArray} {ks : List ByteArray} (hr : risingK ks = true) : kidN ks key = findN key ks + (if isN ks key = true then 1 else 0) := by
 have hgen : ∀ n, n ≤ ks.length → (∀ j y, ks[j]? = some y → ((!ltB key y) = decide (j < n))) → kidN ks key = n := by
  intro n hn h
  unfold kidN
  have hp : ks.countP (fun k => !ltB key k) = ((ks.take n).countP fun k => !ltB key k) + ((ks.drop n).countP fun k => !ltB key k) := by
   rw [← List.countP_append, List.take_append_drop]
  have h1 : ((ks.take n).countP fun k => !ltB key k) = n := by
   rw [List.countP_eq_length.2, List.length_take]
   ·
    omega
   ·
    intro x hx
    obtain ⟨j, hj⟩ := List.getElem?_of_mem hx
    have hjl := (List.getElem?_eq_some_iff.1 hj).1
    rw [List.length_take] at hjl
    rw [List.getElem?_take_of_lt (by omega)] at hj
    rw [h j x hj]; simp; omega
  have h2 : ((ks.drop n).countP fun k => !ltB key k) = 0 := by
   rw [List.countP_eq_zero]
   intro x hx
   obtain ⟨j, hj⟩ := List.getElem?_of_mem hx
   rw [List.getElem?_drop] at hj
   rw [h (n + j) x hj]; simp
  rw [hp, h1, h2]; omega
 by_cases hi : isN ks key = true
 ·
  rw [if_pos hi]
  have hat := isN_iff.1 hi
  have hl := (List.getElem?_eq_some_iff.1 hat).1
  refine hgen _ (by omega) fun j y hy => ?_
  rcases Nat.lt_trichotomy j (findN key ks) with h | h | h
  ·
   rw [ltB_asymm (findN_ahead hy h), decide_eq_true (by omega)]; rfl
  ·
   rw [h, hat] at hy
   cases hy
   rw [ltB_irrefl, decide_eq_true (by omega)]; rfl
  ·
   rw [rising_iff.1 hr _ _ _ _ h hat hy, decide_eq_false (by omega)]; rfl
 ·
  rw [if_neg hi, Nat.add_zero]
  refine hgen _ (findN_le _ _) fun j y hy => ?_
  by_cases h : j < findN key ks
  ·
   rw [ltB_asymm (findN_ahead hy h), decide_eq_true h]; rfl
  ·
   rw [decide_eq_false h]
   have h1 := findN_behind (key := key) hr hy (by omega)
   cases hc : ltB key y with
   | true => rfl
   | false =>
    have hyk : y = key := ltB_total h1 hc
    rw [hyk] at hy
    exact absurd (isN_iff.2 (by rw [findN_there hr hy]; exact hy)) hi
def cutFrom (l : Bool) : Nat := if l = true then 4 else 5
def findR (l : Bool) (ks vs : List ByteArray) (cs : List Int) (key : ByteArray) : Int := if standsN l ks vs cs = true then (findN key ks : Nat) else 0
def findI (l : Bool) (ks vs : List ByteArray) (cs : List Int) (key : ByteArray) : Bool := standsN l ks vs cs && isN ks key
def kidR (l : Bool) (ks vs : List ByteArray) (cs : List Int) (key : ByteArray) : Int := if standsN l ks vs cs = true ∧ l = false then (kidN ks key : Nat) else 0
end Go.Proofs.YtaecfbfcjaailaaGreat.Plain
namespace Go.Proofs.YtaecfbfcjaailaaGreat
open Go.RowKit Plain
set_option linter.unusedVariables false
theorem refStands_at {l : Bool} {a a' a'' : Option Addr} {c c' c'' n n' n'' : Nat} {ks vs : List ByteArray} {cs : List Int} {w : World} (hn : n = ks.length) (hn' : n' = vs.length) (hn'' : n'' = cs.length) (hK : IsS w a c ks) (hV : IsS w a' c' vs) (hC : IsI w a'' c'' cs) :
  Calls Tryz.prog 74 #[.agg #[.bool l, .slice a n c, .slice a' n' c', .slice a'' n'' c'']] w fun e w' => e = .returned (.bool (standsN l ks vs cs)) ∧ Below w.heap.size w w' := by
 subst hn hn' hn''; exact refStands_any l a a' a'' c c' c'' ks vs cs w hK hV hC
set_option maxHeartbeats 1000000 in
theorem refNodeRight_any (l : Bool) (a a' a'' : Option Addr) (c c' c'' n n' n'' : Nat) (ks vs : List ByteArray) (cs : List Int) (root : Bool) (w : World) (hn : n = ks.length) (hn' : n' = vs.length) (hn'' : n'' = cs.length) (hK : IsS w a c ks) (hV : IsS w a' c' vs) (hC : IsI w a'' c'' cs) :
  Calls Tryz.prog 59 #[.agg #[.bool l, .slice a n c, .slice a' n' c', .slice a'' n'' c''], .bool root] w fun e w' => e = .returned (.bool (rightN l ks vs cs root)) ∧ Below w.heap.size w w' := by
 have hB0 : Below w.heap.size w (w.alloc (.cells #[.bool l, .slice a n c, .slice a' n' c', .slice a'' n'' c''] 76)) := (Below.refl _ _).alloc (Nat.le_refl _) _
 have hX := box4_new w (.bool l) (.slice a n c) (.slice a' n' c') (.slice a'' n'' c'') 76 rfl
 have cS := refStands_at (l := l) hn hn' hn'' (hK.below hB0) (hV.below hB0) (hC.below hB0)
 have hm : n ≤ 9223372036854775807 := by rw [hn]; exact hK.size
 have HE : Hid (rightN l ks vs cs root = (standsN l ks vs cs && decide ((n : Int) ≤ 8) && (root || decide (4 ≤ (n : Int))))) := by
  show _ = _
  rw [hn]; unfold rightN
  congr 1
  ·
   congr 1
   rw [decide_eq_decide]; omega
  ·
   congr 1
   rw [decide_eq_decide]; omega
 clear hn hn' hn'' hK hV hC
 cases hs : standsN l ks vs cs with
 | true =>
  rw [hs] at cS HE
  by_cases h8 : (n : Int) ≤ 8
  ·
   cases root with
   | true =>
    go_enter Tryz.func59, Tryz.ntmps59
    go_wp2_with (go_at_call 74; refine cS.mono ?_; rintro e w1 ⟨rfl, hb⟩; obtain ⟨⟨q0, q1, q2, q3⟩, -⟩ := hX.below hb; have hB1 := Below.tr hB0 hb)
    go_ret
    exact ⟨ret_bool (by rw [HE.out]; simp [h8]), hB1⟩
   | false =>
    go_enter Tryz.func59, Tryz.ntmps59
    go_wp2_with (go_at_call 74; refine cS.mono ?_; rintro e w1 ⟨rfl, hb⟩; obtain ⟨⟨q0, q1, q2, q3⟩, -⟩ := hX.below hb; have hB1 := Below.tr hB0 hb)
    go_ret
    exact ⟨ret_bool (by rw [HE.out]; simp [h8]), hB1⟩
  ·
   go_enter Tryz.func59, Tryz.ntmps59
   go_wp2_with (go_at_call 74; refine cS.mono ?_; rintro e w1 ⟨rfl, hb⟩; obtain ⟨⟨q0, q1, q2, q3⟩, -⟩ := hX.below hb; have hB1 := Below.tr hB0 hb)
   go_ret
   exact ⟨ret_bool (by rw [HE.out, decide_eq_false (p := (n : Int) ≤ 8) (by omega)]; simp), hB1⟩
 | false =>
  rw [hs] at cS HE
  go_enter Tryz.func59, Tryz.ntmps59
  go_wp2_with (go_at_call 74; refine cS.mono ?_; rintro e w1 ⟨rfl, hb⟩; obtain ⟨⟨q0, q1, q2, q3⟩, -⟩ := hX.below hb; have hB1 := Below.tr hB0 hb)
  go_ret
  exact ⟨ret_bool (by rw [HE.out]; simp), hB1⟩
end Go.Proofs.YtaecfbfcjaailaaGreat
namespace Go.Proofs.YtaecfbfcjaailaaGreat
open Go.RowKit Plain Anylast
set_option linter.unusedVariables false
theorem leaf_err {s : ByteArray} {e : Int} {j c : Nat} (h0 : getE s 0 1 = 0) (hc : getR s 0 1 = c) (h : leafSt s j = .inl e) (hj : j ≤ c) : leafR s = .inl e := by
 obtain ⟨d, rfl⟩ : ∃ d, c = j + d := ⟨c - j, by omega⟩
 unfold leafR
 rw [if_pos h0, hc, Int.toNat_natCast, leafSt_stuck h d]
theorem leaf_end {s : ByteArray} {p : Int} {ks vs : List ByteArray} {c : Nat} (h0 : getE s 0 1 = 0) (hc : getR s 0 1 = c) (h : leafSt s c = .inr (p, ks, vs)) : leafR s = if p = s.size ∧ rightN true ks vs [] true = true then .inr (true, ks, vs, []) else .inl 4 := by
 unfold leafR
 rw [if_pos h0, hc, Int.toNat_natCast, h]
set_option maxRecDepth 20000 in
set_option maxHeartbeats 4000000 in
theorem refGetLeaf_any (s : ByteArray) (w : World) (hs : s.size ≤ maxLen) :
  Calls Tryz.prog 58 #[.int .i64 1, .string s] w fun x w' => Answers w x w' (gN 1 s).1 (gN 1 s).2.1 (gN 1 s).2.2.1 (gN 1 s).2.2.2 (gE 1 s) := by
 obtain ⟨Q, hQ⟩ : ∃ Q : Ending → World → Prop, Q = fun x w' => Answers w x w' (gN 1 s).1 (gN 1 s).2.1 (gN 1 s).2.2.1 (gN 1 s).2.2.2 (gE 1 s) := ⟨_, rfl⟩
 have hN : nodeR 1 s = leafR s := by unfold nodeR; rw [if_pos rfl]
 have HQ : Hid (∀ e, leafR s = .inl e → ∀ x w', Answers w x w' false [] [] [] e → Q x w') := fun e h x w' ha => by
  obtain ⟨g1, g2⟩ := g_inl (hN.trans h)
  rw [hQ, g1, g2]; exact ha
 have HQ2 : Hid (∀ y, leafR s = .inr y → ∀ x w', Answers w x w' y.1 y.2.1 y.2.2.1 y.2.2.2 0 → Q x w') := fun y h x w' ha => by
  obtain ⟨g1, g2⟩ := g_inr (hN.trans h)
  rw [hQ, g1, g2]; exact ha
 rw [← hQ]
 clear hQ hN
 obtain ⟨W, hW, b0, bn, hB0, hsz⟩ := node_two w 76 true (.slice none 0 0)
 have N0 : NodeAt W (w.heap.size + 1) (w.heap.size + 2) true (.slice none 0 0) (.slice none 0 0) (.slice none 0 0) [] [] [] := nodeAt_new bn (by omega)
 have hle : w.heap.size ≤ w.heap.size := Nat.le_refl _
 have cG := fun V => refGet_any s 0 1 V hs
 by_cases h0 : getE s 0 1 = 0
 ·
  obtain ⟨e1, e2, e3⟩ := rn_one h0
  obtain ⟨c, hc, hc2⟩ := rn_count s
  rw [e3] at hc
  have eT : getT s 0 1 = 1 := by
   have h' : getE s ((0 : Nat) : Int) ((1 : Nat) : Int) = 0 := h0
   exact (get_num h').2.1
  rw [hc, eT, h0] at cG
  have HE : Hid (∀ e j, leafSt s j = .inl e → j ≤ c → leafR s = .inl e) := fun e j h hj => leaf_err h0 hc h hj
  have HF : Hid (∀ p ks vs, leafSt s c = .inr (p, ks, vs) → leafR s = if p = s.size ∧ rightN true ks vs [] true = true then .inr (true, ks, vs, []) else .inl 4) := fun p ks vs h => leaf_end h0 hc h
  have HS : Hid (s.size ≤ maxLen) := hs
  have hm : s.size ≤ 9223372036854775807 := hs
  clear e1 e2 e3 hc eT h0 hs bn hsz
  go_enter Tryz.func58, Tryz.ntmps58
  go_wp2_with (go_at_call 40; rw [← hW]; refine (cG _).mono ?_; rintro y w1 ⟨rfl, rfl⟩)
  rw [← hW]
  clear hW cG
  go_loopw [8, 10] (fun v8 v10 wr => ∃ (j : Nat) (p : Int) (u1 u2 : Value) (xs ys : List ByteArray), j ≤ c ∧ v10 = .int .i64 j ∧ v8 = .int .i64 p ∧ leafSt s j = .inr (p, xs, ys) ∧ NodeAt wr (w.heap.size + 1) (w.heap.size + 2) true u1 u2 (.slice none 0 0) xs ys [] ∧ (∀ x ∈ xs, x.size ≤ s.size) ∧ (∀ x ∈ ys, x.size ≤ s.size) ∧ Box4 wr w.heap.size (.bool false) (.slice none 0 0) (.slice none 0 0) (.slice none 0 0) ∧ Below w.heap.size w wr) (fun _ v10 _ => c - (intOf v10).toNat)
  case atStart => exact ⟨0, 1, _, _, [], [], by omega, rfl, rfl, rfl, N0, fun x h => (by cases h), fun x h => (by cases h), b0, hB0⟩
  case round =>
   clear N0 b0 hB0
   obtain ⟨j, p, u1, u2, xs, ys, hj, rfl, rfl, hst, N, sx, sy, b0, HB⟩ := hrel
   obtain ⟨l1, l2⟩ := leafSt_length hst
   by_cases hlt : j < c
   ·
    have hlt' : (j : Int) < c := by omega
    have cC1 := fun V => refCut_any s p V HS.out
    obtain ⟨k1, hk1⟩ : ∃ x, x = cutS s p := ⟨_, rfl⟩
    obtain ⟨p1, hp1⟩ : ∃ x, x = cutT s p := ⟨_, rfl⟩
    obtain ⟨E1, hE1⟩ : ∃ x, x = cutE s p := ⟨_, rfl⟩
    rw [← hk1, ← hp1, ← hE1] at cC1
    obtain ⟨⟨r0, r1, r2, r3⟩, g0, g1, g2, g3⟩ := id b0
    have hst' : leafSt s (j + 1) = if E1 = 0 then (if cutE s p1 = 0 then .inr (cutT s p1, xs ++ [k1], ys ++ [cutS s p1]) else .inl (cutE s p1)) else .inl E1 := by
     rw [leafSt, hst, hk1, hp1, hE1]
    by_cases z1 : E1 = 0
    ·
     subst z1
     rw [if_pos rfl] at hst'
     have cC2 := fun V => refCut_any s p1 V HS.out
     obtain ⟨k2, hk2⟩ : ∃ x, x = cutS s p1 := ⟨_, rfl⟩
     obtain ⟨p2, hp2⟩ : ∃ x, x = cutT s p1 := ⟨_, rfl⟩
     obtain ⟨E2, hE2⟩ : ∃ x, x = cutE s p1 := ⟨_, rfl⟩
     rw [← hk2, ← hp2, ← hE2] at cC2 hst'
     have sk1 : k1.size ≤ s.size := by rw [hk1]; exact cutS_size s p
     have sk2 : k2.size ≤ s.size := by rw [hk2]; exact cutS_size s p1
     obtain ⟨ga, cap, V3, hrun1, b3, N4, T4⟩ := N.push1 k1 (by omega)
     obtain ⟨V4, hV4⟩ : ∃ V, V = V3.setCell ⟨w.heap.size + 1, 1, none⟩ (.slice (some ⟨ga, 0, none⟩) (xs.length + 1) cap) := ⟨_, rfl⟩
     rw [← hV4] at N4 T4
     have HB4 : Below w.heap.size w V4 := Below.turns HB T4 (fun k hk => by rcases hk with h | h <;> omega)
     have b04 := b0.turns T4 (by rintro (h | h) <;> omega)
     obtain ⟨⟨q0, q1, q2, q3⟩, -⟩ := N.box
     have Q1 := fun o => cell_alloc q1 o
     obtain ⟨⟨q03, q13, q23, q33⟩, f0, f1, f2, f3⟩ := id b3
     have HST : Hid (leafSt s (j + 1) = if E2 = 0 then .inr (p2, xs ++ [k1], ys ++ [k2]) else .inl E2) := hst'
     have SX : Hid (∀ x ∈ xs ++ [k1], x.size ≤ s.size) := fun x hx => by
      rcases List.mem_append.1 hx with h | h
      ·
       exact sx x h
      ·
       obtain rfl : x = k1 := by simpa using h
       exact sk1
     have SY : Hid (∀ x ∈ ys ++ [k2], x.size ≤ s.size) := fun x hx => by
      rcases List.mem_append.1 hx with h | h
      ·
       exact sy x h
      ·
       obtain rfl : x = k2 := by simpa using h
       exact sk2
     obtain ⟨⟨s0, s1, s2, s3⟩, -⟩ := N4.box
     have S2 := fun o => cell_alloc s2 o
     by_cases z2 : E2 = 0
     ·
      subst z2
      obtain ⟨gb, cap2, U3, hrun2, b5, N8, T8⟩ := N4.push2 k2 (by omega)
      obtain ⟨U4, hU4⟩ : ∃ V, V = U3.setCell ⟨w.heap.size + 1, 2, none⟩ (.slice (some ⟨gb, 0, none⟩) (ys.length + 1) cap2) := ⟨_, rfl⟩
      rw [← hU4] at N8 T8
      have NH : Hid (NodeAt U4 (w.heap.size + 1) (w.heap.size + 2) true (.slice (some ⟨ga, 0, none⟩) (xs.length + 1) cap) (.slice (some ⟨gb, 0, none⟩) (ys.length + 1) cap2) (.slice none 0 0) (xs ++ [k1]) (ys ++ [k2]) []) := N8
      have BH : Hid (Box4 U4 w.heap.size (.bool false) (.slice none 0 0) (.slice none 0 0) (.slice none 0 0) ∧ Below w.heap.size w U4) := ⟨b04.turns T8 (by rintro (h | h) <;> omega), Below.turns HB4 T8 (fun k hk => by rcases hk with h | h <;> omega)⟩
      obtain ⟨⟨q05, q15, q25, q35⟩, h0, h1, h2, h3⟩ := id b5
      have HV4 : Hid (V4 = V3.setCell ⟨w.heap.size + 1, 1, none⟩ (.slice (some ⟨ga, 0, none⟩) (xs.length + 1) cap)) := hV4
      have HU4 : Hid (U4 = U3.setCell ⟨w.heap.size + 1, 2, none⟩ (.slice (some ⟨gb, 0, none⟩) (ys.length + 1) cap2)) := hU4
      have t1 : True := trivial
      clear hk1 hp1 hE1 hk2 hp2 hE2 hst hst' l1 l2 hV4 hU4 N N4 N8 T4 T8 b3 b5 sx sy sk1 sk2 b0 b04 HB4
      go_wp2_with (first
       | (go_at_call 73; have _t := t1; refine (cC1 _).mono ?_; rintro y w1 ⟨rfl, rfl⟩)
       | (at_builtin; have _t := t1; refine Lib.wpList_append_run _ rfl _ _ _ _ rfl _ _ rfl rfl _ _ hrun1 ?_; clear t1 _t)
       | (go_at_call 73; rw [← HV4.out]; refine (cC2 _).mono ?_; rintro y w1 ⟨rfl, rfl⟩)
       | (at_builtin; refine Lib.wpList_append_run _ rfl _ _ _ _ rfl _ _ rfl rfl _ _ hrun2 ?_))
      go_roundw
      case rel => exact ⟨j + 1, p2, .slice (some ⟨ga, 0, none⟩) (xs.length + 1) cap, .slice (some ⟨gb, 0, none⟩) (ys.length + 1) cap2, xs ++ [k1], ys ++ [k2], by omega, by go_num, rfl, by rw [HST.out]; simp, by rw [← HU4.out]; exact NH.out, SX.out, SY.out, by rw [← HU4.out]; exact BH.out.1, by rw [← HU4.out]; exact BH.out.2⟩
      case measure => simp [intOf]; omega
     ·
      have z2' : (E2 != 0) = true := by simpa using z2
      have HEE : Hid (leafR s = .inl E2) := HE.out E2 (j + 1) (by rw [HST.out, if_neg z2]) (by omega)
      have HV4 : Hid (V4 = V3.setCell ⟨w.heap.size + 1, 1, none⟩ (.slice (some ⟨ga, 0, none⟩) (xs.length + 1) cap)) := hV4
      have t1 : True := trivial
      clear r0 r1 r2 r3 g0 g1 g2 g3
      obtain ⟨⟨r0, r1, r2, r3⟩, g0, g1, g2, g3⟩ := id b04
      clear hk1 hp1 hE1 hk2 hp2 hE2 hst hst' l1 l2 hV4 N N4 T4 b3 sx sy sk1 sk2 b0 b04 HB z2
      go_wp2_with (first
       | (go_at_call 73; have _t := t1; refine (cC1 _).mono ?_; rintro y w1 ⟨rfl, rfl⟩)
       | (at_builtin; have _t := t1; refine Lib.wpList_append_run _ rfl _ _ _ _ rfl _ _ rfl rfl _ _ hrun1 ?_; clear t1 _t)
       | (go_at_call 73; rw [← HV4.out]; refine (cC2 _).mono ?_; rintro y w1 ⟨rfl, rfl⟩))
      refine bodyPost_ret (v := .tuple #[.agg #[.bool false, .slice none 0 0, .slice none 0 0, .slice none 0 0], .int .i64 E2]) (by simp [results, Tryz.results58, go_sem, r0, r1, r2, r3]) rfl (HQ.out _ HEE.out _ _ (answers_none (below_put4 HB4 hle _ _ _ _)))
    ·
     have z1' : (E1 != 0) = true := by simpa using z1
     have HEE : Hid (leafR s = .inl E1) := HE.out E1 (j + 1) (by rw [hst', if_neg z1]) (by omega)
     clear hk1 hp1 hE1 hst hst' l1 l2 N sx sy b0 z1
     go_wp2_with (go_at_call 73; refine (cC1 _).mono ?_; rintro y w1 ⟨rfl, rfl⟩)
     refine bodyPost_ret (v := .tuple #[.agg #[.bool false, .slice none 0 0, .slice none 0 0, .slice none 0 0], .int .i64 E1]) (by simp [results, Tryz.results58, go_sem, r0, r1, r2, r3]) rfl (HQ.out _ HEE.out _ _ (answers_none (below_put4 HB hle _ _ _ _)))
   ·
    obtain rfl : j = c := by omega
    have hfin : Hid (leafR s = if p = s.size ∧ rightN true xs ys [] true = true then .inr (true, xs, ys, []) else .inl 4) := HF.out p xs ys hst
    have X1 : Hid (∀ x ∈ xs, x.size ≤ maxLen) := fun x hx => Nat.le_trans (sx x hx) HS.out
    have X2 : Hid (∀ x ∈ ys, x.size ≤ maxLen) := fun x hx => Nat.le_trans (sy x hx) HS.out
    obtain ⟨a, d, a', d', a'', d'', rfl, rfl, e3, i1, i2, i3, j1, j2, j3⟩ := N.rows X1.out X2.out
    have NH : Hid (NodeAt wr (w.heap.size + 1) (w.heap.size + 2) true (.slice a xs.length d) (.slice a' ys.length d') (.slice none 0 0) xs ys []) := N
    obtain ⟨⟨q0, q1, q2, q3⟩, -⟩ := N.box
    have cR : Calls Tryz.prog 59 #[.agg #[.bool true, .slice a xs.length d, .slice a' ys.length d', .slice none 0 0], .bool true] wr fun e w' => e = .returned (.bool (rightN true xs ys [] true)) ∧ Below wr.heap.size wr w' := refNodeRight_any true a a' none d d' 0 _ _ 0 xs ys [] true wr rfl rfl rfl i1 i2 (isI_nil _)
    clear l1 l2 hst sx sy e3 i1 i2 i3
    by_cases hP : p = s.size
    ·
     subst hP
     cases hr : rightN true xs ys [] true with
     | true =>
      rw [hr] at cR hfin
      replace hfin : Hid (leafR s = .inr (true, xs, ys, [])) := by show _ = _; rw [hfin.out, if_pos ⟨rfl, rfl⟩]
      clear hr
      have J1 : Hid (From (w.heap.size + 2) a) := j1
      have J2 : Hid (From (w.heap.size + 2) a') := j2
      clear j1 j2 j3 N
      go_wp2_with (go_at_call 59; refine cR.mono ?_; rintro y w1 ⟨rfl, hb⟩; have NH1 : Hid (NodeAt w1 (w.heap.size + 1) (w.heap.size + 2) true (.slice a xs.length d) (.slice a' ys.length d') (.slice none 0 0) xs ys []) := NH.out.below hb; replace b0 := b0.below hb; replace HB := Below.tr HB hb; obtain ⟨⟨r0, r1, r2, r3⟩, g0, g1, g2, g3⟩ := id b0; clear q0 q1 q2 q3; obtain ⟨⟨q0, q1, q2, q3⟩, -⟩ := NH1.out.box; clear hb)
      have N4 := (((NH1.out.other (k := w.heap.size) (by omega) (by omega) 0 (.bool true)).other (k := w.heap.size) (by omega) (by omega) 1 (.slice a xs.length d)).other (k := w.heap.size) (by omega) (by omega) 2 (.slice a' ys.length d')).other (k := w.heap.size) (by omega) (by omega) 3 (.slice none 0 0)
      obtain ⟨a1, d1, a1', d1', a1'', d1'', e1, e2, e3, i1, i2, i3, -, -, -⟩ := N4.rows X1.out X2.out
      cases e1
      cases e2
      exact bodyPost_ret (v := .tuple #[.agg #[.bool true, .slice a xs.length d, .slice a' ys.length d', .slice none 0 0], .int .i64 0]) (by simp [results, Tryz.results58, go_sem, r0, r1, r2, r3]) rfl (HQ2.out _ hfin.out _ _ ⟨_, a, d, _, a', d', 0, none, 0, rfl, rfl, rfl, rfl, i1, i2, isI_nil _, J1.out.mono (by omega), J2.out.mono (by omega), from_nil _, below_put4 HB hle _ _ _ _⟩)
     | false =>
      rw [hr] at cR hfin
      replace hfin : Hid (leafR s = .inl 4) := by show _ = _; rw [hfin.out, if_neg (by simp)]
      clear hr j1 j2 j3 N
      go_wp2_with (go_at_call 59; refine cR.mono ?_; rintro y w1 ⟨rfl, hb⟩; replace b0 := b0.below hb; replace HB := Below.tr HB hb; obtain ⟨⟨r0, r1, r2, r3⟩, g0, g1, g2, g3⟩ := id b0; clear q0 q1 q2 q3 hb)
      refine bodyPost_ret (v := .tuple #[.agg #[.bool false, .slice none 0 0, .slice none 0 0, .slice none 0 0], .int .i64 4]) (by simp [results, Tryz.results58, go_sem, r0, r1, r2, r3]) rfl (HQ.out _ hfin.out _ _ (answers_none (below_put4 HB hle _ _ _ _)))
    ·
     have hP' : (p != (s.size : Int)) = true := by simpa using hP
     replace hfin : Hid (leafR s = .inl 4) := by show _ = _; rw [hfin.out, if_neg (fun h => hP h.1)]
     obtain ⟨⟨r0, r1, r2, r3⟩, g0, g1, g2, g3⟩ := id b0
     clear j1 j2 j3 N cR hP
     go_wp2
     refine bodyPost_ret (v := .tuple #[.agg #[.bool false, .slice none 0 0, .slice none 0 0, .slice none 0 0], .int .i64 4]) (by simp [results, Tryz.results58, go_sem, r0, r1, r2, r3]) rfl (HQ.out _ hfin.out _ _ (answers_none (below_put4 HB hle _ _ _ _)))
 ·
  have hb' : (getE s 0 1 != 0) = true := by simpa using h0
  have eR : getR s 0 1 = 0 := by unfold getR; rw [if_neg h0]
  have HEE : Hid (leafR s = .inl (getE s 0 1)) := by show _ = _; unfold leafR; rw [if_neg h0]
  rw [eR] at cG
  generalize getE s 0 1 = E1 at *
  generalize getT s 0 1 = T1 at *
  obtain ⟨⟨r0, r1, r2, r3⟩, g0, g1, g2, g3⟩ := id b0
  clear eR h0 N0 bn hsz
  go_enter Tryz.func58, Tryz.ntmps58
  go_wp2_with (go_at_call 40; rw [← hW]; refine (cG _).mono ?_; rintro y w1 ⟨rfl, rfl⟩)
  rw [← hW]
  clear hW cG
  go_loopw [10] (fun v wr => v = .int .i64 0 ∧ wr = W) (fun _ _ => 0)
  case atStart => exact ⟨rfl, rfl⟩
  case round =>
   obtain ⟨rfl, hwr⟩ := hrel
   subst hwr
   go_wp2
   refine bodyPost_ret (v := .tuple #[.agg #[.bool false, .slice none 0 0, .slice none 0 0, .slice none 0 0], .int .i64 E1]) (by simp [results, Tryz.results58, go_sem, r0, r1, r2, r3]) rfl (HQ.out _ HEE.out _ _ (answers_none (below_put4 hB0 hle _ _ _ _)))
theorem inn_err {s : ByteArray} {e : Int} {j c : Nat} (h0 : getE s 0 1 = 0) (hc : getR s 0 1 = c) (h : innSt s j = .inl e) (hj : j ≤ c) : innR s = .inl e := by
 obtain ⟨d, rfl⟩ : ∃ d, c = j + d := ⟨c - j, by omega⟩
 unfold innR
 rw [if_pos h0, hc, Int.toNat_natCast, innSt_stuck h d]
theorem inn_end {s : ByteArray} {p : Int} {ks : List ByteArray} {cs : List Int} {c : Nat} (h0 : getE s 0 1 = 0) (hc : getR s 0 1 = c) (h : innSt s c = .inr (p, ks, cs)) : innR s = if getE s p 2 = 0 then (if getT s p 2 = s.size ∧ rightN false ks [] (cs ++ [getR s p 2]) true = true then .inr (false, ks, [], cs ++ [getR s p 2]) else .inl 4) else .inl (getE s p 2) := by
 unfold innR
 rw [if_pos h0, hc, Int.toNat_natCast, h]
set_option maxRecDepth 20000 in
set_option maxHeartbeats 4000000 in
theorem refGetInner_any (s : ByteArray) (w : World) (hs : s.size ≤ maxLen) :
  Calls Tryz.prog 58 #[.int .i64 2, .string s] w fun x w' => Answers w x w' (gN 2 s).1 (gN 2 s).2.1 (gN 2 s).2.2.1 (gN 2 s).2.2.2 (gE 2 s) := by
 obtain ⟨Q, hQ⟩ : ∃ Q : Ending → World → Prop, Q = fun x w' => Answers w x w' (gN 2 s).1 (gN 2 s).2.1 (gN 2 s).2.2.1 (gN 2 s).2.2.2 (gE 2 s) := ⟨_, rfl⟩
 have hN : nodeR 2 s = innR s := by unfold nodeR; rw [if_neg (by decide), if_pos rfl]
 have HQ : Hid (∀ e, innR s = .inl e → ∀ x w', Answers w x w' false [] [] [] e → Q x w') := fun e h x w' ha => by
  obtain ⟨g1, g2⟩ := g_inl (hN.trans h)
  rw [hQ, g1, g2]; exact ha
 have HQ2 : Hid (∀ y, innR s = .inr y → ∀ x w', Answers w x w' y.1 y.2.1 y.2.2.1 y.2.2.2 0 → Q x w') := fun y h x w' ha => by
  obtain ⟨g1, g2⟩ := g_inr (hN.trans h)
  rw [hQ, g1, g2]; exact ha
 rw [← hQ]
 clear hQ hN
 obtain ⟨W, hW, b0, bn, hB0, hsz⟩ := node_two w 76 false (.slice none 0 0)
 have N0 : NodeAt W (w.heap.size + 1) (w.heap.size + 2) false (.slice none 0 0) (.slice none 0 0) (.slice none 0 0) [] [] [] := nodeAt_new bn (by omega)
 have hle : w.heap.size ≤ w.heap.size := Nat.le_refl _
 have cG := fun V => refGet_any s 0 1 V hs
 by_cases h0 : getE s 0 1 = 0
 ·
  obtain ⟨e1, e2, e3⟩ := rn_one h0
  obtain ⟨c, hc, hc2⟩ := rn_count s
  rw [e3] at hc
  have eT : getT s 0 1 = 1 := by
   have h' : getE s ((0 : Nat) : Int) ((1 : Nat) : Int) = 0 := h0
   exact (get_num h').2.1
  rw [hc, eT, h0] at cG
  have HE : Hid (∀ e j, innSt s j = .inl e → j ≤ c → innR s = .inl e) := fun e j h hj => inn_err h0 hc h hj
  have HF : Hid (∀ p ks cs, innSt s c = .inr (p, ks, cs) → innR s = if getE s p 2 = 0 then (if getT s p 2 = s.size ∧ rightN false ks [] (cs ++ [getR s p 2]) true = true then .inr (false, ks, [], cs ++ [getR s p 2]) else .inl 4) else .inl (getE s p 2)) := fun p ks cs h => inn_end h0 hc h
  have HS : Hid (s.size ≤ maxLen) := hs
  have hm : s.size ≤ 9223372036854775807 := hs
  clear e1 e2 e3 hc eT h0 hs bn hsz
  go_enter Tryz.func58, Tryz.ntmps58
  go_wp2_with (go_at_call 40; rw [← hW]; refine (cG _).mono ?_; rintro y w1 ⟨rfl, rfl⟩)
  rw [← hW]
  clear hW cG
  go_loopw [8, 10] (fun v8 v10 wr => ∃ (j : Nat) (p : Int) (u1 u3 : Value) (xs : List ByteArray) (zs : List Int), j ≤ c ∧ v10 = .int .i64 j ∧ v8 = .int .i64 p ∧ innSt s j = .inr (p, xs, zs) ∧ NodeAt wr (w.heap.size + 1) (w.heap.size + 2) false u1 (.slice none 0 0) u3 xs [] zs ∧ (∀ x ∈ xs, x.size ≤ s.size) ∧ Box4 wr w.heap.size (.bool false) (.slice none 0 0) (.slice none 0 0) (.slice none 0 0) ∧ Below w.heap.size w wr) (fun _ v10 _ => c - (intOf v10).toNat)
  case atStart => exact ⟨0, 1, _, _, [], [], by omega, rfl, rfl, rfl, N0, fun x h => (by cases h), b0, hB0⟩
  case round =>
   clear N0 b0 hB0
   obtain ⟨j, p, u1, u3, xs, zs, hj, rfl, rfl, hst, N, sx, b0, HB⟩ := hrel
   obtain ⟨l1, l2⟩ := innSt_length hst
   have cC1 := fun V => refGet_any s p 2 V HS.out
   obtain ⟨k1, hk1⟩ : ∃ x, x = getR s p 2 := ⟨_, rfl⟩
   obtain ⟨p1, hp1⟩ : ∃ x, x = getT s p 2 := ⟨_, rfl⟩
   obtain ⟨E1, hE1⟩ : ∃ x, x = getE s p 2 := ⟨_, rfl⟩
   rw [← hk1, ← hp1, ← hE1] at cC1
   obtain ⟨⟨r0, r1, r2, r3⟩, g0, g1, g2, g3⟩ := id b0
   obtain ⟨ga, cap, V3, hrun1, b3, N4, T4⟩ := N.push3 k1 (by omega)
   obtain ⟨V4, hV4⟩ : ∃ V, V = V3.setCell ⟨w.heap.size + 1, 3, none⟩ (.slice (some ⟨ga, 0, none⟩) (zs.length + 1) cap) := ⟨_, rfl⟩
   rw [← hV4] at N4 T4
   have HB4 : Below w.heap.size w V4 := Below.turns HB T4 (fun k hk => by rcases hk with h | h <;> omega)
   have b04 := b0.turns T4 (by rintro (h | h) <;> omega)
   obtain ⟨⟨q0, q1, q2, q3⟩, -⟩ := N.box
   have Q3 := fun o => cell_alloc q3 o
   obtain ⟨⟨q03, q13, q23, q33⟩, f0, f1, f2, f3⟩ := id b3
   have HV4 : Hid (V4 = V3.setCell ⟨w.heap.size + 1, 3, none⟩ (.slice (some ⟨ga, 0, none⟩) (zs.length + 1) cap)) := hV4
   by_cases hlt : j < c
   ·
    have hlt' : (j : Int) < c := by omega
    have hst' : innSt s (j + 1) = if E1 = 0 then (if cutE s p1 = 0 then .inr (cutT s p1, xs ++ [cutS s p1], zs ++ [k1]) else .inl (cutE s p1)) else .inl E1 := by
     rw [innSt, hst, hk1, hp1, hE1]
    by_cases z1 : E1 = 0
    ·
     subst z1
     rw [if_pos rfl] at hst'
     have cC2 := fun V => refCut_any s p1 V HS.out
     obtain ⟨k2, hk2⟩ : ∃ x, x = cutS s p1 := ⟨_, rfl⟩
     obtain ⟨p2, hp2⟩ : ∃ x, x = cutT s p1 := ⟨_, rfl⟩
     obtain ⟨E2, hE2⟩ : ∃ x, x = cutE s p1 := ⟨_, rfl⟩
     rw [← hk2, ← hp2, ← hE2] at cC2 hst'
     have sk2 : k2.size ≤ s.size := by rw [hk2]; exact cutS_size s p1
     have HST : Hid (innSt s (j + 1) = if E2 = 0 then .inr (p2, xs ++ [k2], zs ++ [k1]) else .inl E2) := hst'
     have SX : Hid (∀ x ∈ xs ++ [k2], x.size ≤ s.size) := fun x hx => by
      rcases List.mem_append.1 hx with h | h
      ·
       exact sx x h
      ·
       obtain rfl : x = k2 := by simpa using h
       exact sk2
     obtain ⟨⟨s0, s1, s2, s3⟩, -⟩ := N4.box
     have S1 := fun o => cell_alloc s1 o
     by_cases z2 : E2 = 0
     ·
      subst z2
      obtain ⟨gb, cap2, U3, hrun2, b5, N8, T8⟩ := N4.push1 k2 (by omega)
      obtain ⟨U4, hU4⟩ : ∃ V, V = U3.setCell ⟨w.heap.size + 1, 1, none⟩ (.slice (some ⟨gb, 0, none⟩) (xs.length + 1) cap2) := ⟨_, rfl⟩
      rw [← hU4] at N8 T8
      have NH : Hid (NodeAt U4 (w.heap.size + 1) (w.heap.size + 2) false (.slice (some ⟨gb, 0, none⟩) (xs.length + 1) cap2) (.slice none 0 0) (.slice (some ⟨ga, 0, none⟩) (zs.length + 1) cap) (xs ++ [k2]) [] (zs ++ [k1])) := N8
      have BH : Hid (Box4 U4 w.heap.size (.bool false) (.slice none 0 0) (.slice none 0 0) (.slice none 0 0) ∧ Below w.heap.size w U4) := ⟨b04.turns T8 (by rintro (h | h) <;> omega), Below.turns HB4 T8 (fun k hk => by rcases hk with h | h <;> omega)⟩
      obtain ⟨⟨q05, q15, q25, q35⟩, h0, h1, h2, h3⟩ := id b5
      have HU4 : Hid (U4 = U3.setCell ⟨w.heap.size + 1, 1, none⟩ (.slice (some ⟨gb, 0, none⟩) (xs.length + 1) cap2)) := hU4
      have t1 : True := trivial
      clear hk1 hp1 hE1 hk2 hp2 hE2 hst hst' l1 l2 hV4 hU4 N N4 N8 T4 T8 b3 b5 sx sk2 b0 b04 HB4
      go_wp2_with (first
       | (go_at_call 40; refine (cC1 _).mono ?_; rintro y w1 ⟨rfl, rfl⟩)
       | (at_builtin; have _t := t1; refine Lib.wpList_append_run _ rfl _ _ _ _ rfl _ _ rfl rfl _ _ hrun1 ?_; clear t1 _t)
       | (go_at_call 73; rw [← HV4.out]; refine (cC2 _).mono ?_; rintro y w1 ⟨rfl, rfl⟩)
       | (at_builtin; refine Lib.wpList_append_run _ rfl _ _ _ _ rfl _ _ rfl rfl _ _ hrun2 ?_))
      go_roundw
      case rel => exact ⟨j + 1, p2, .slice (some ⟨gb, 0, none⟩) (xs.length + 1) cap2, .slice (some ⟨ga, 0, none⟩) (zs.length + 1) cap, xs ++ [k2], zs ++ [k1], by omega, by go_num, rfl, by rw [HST.out]; simp, by rw [← HU4.out]; exact NH.out, SX.out, by rw [← HU4.out]; exact BH.out.1, by rw [← HU4.out]; exact BH.out.2⟩
      case measure => simp [intOf]; omega
     ·
      have z2' : (E2 != 0) = true := by simpa using z2
      have HEE : Hid (innR s = .inl E2) := HE.out E2 (j + 1) (by rw [HST.out, if_neg z2]) (by omega)
      have t1 : True := trivial
      clear r0 r1 r2 r3 g0 g1 g2 g3
      obtain ⟨⟨r0, r1, r2, r3⟩, g0, g1, g2, g3⟩ := id b04
      clear hk1 hp1 hE1 hk2 hp2 hE2 hst hst' l1 l2 hV4 N N4 T4 b3 sx sk2 b0 b04 HB z2
      go_wp2_with (first
       | (go_at_call 40; refine (cC1 _).mono ?_; rintro y w1 ⟨rfl, rfl⟩)
       | (at_builtin; refine Lib.wpList_append_run _ rfl _ _ _ _ rfl _ _ rfl rfl _ _ hrun1 ?_)
       | (go_at_call 73; rw [← HV4.out]; refine (cC2 _).mono ?_; rintro y w1 ⟨rfl, rfl⟩))
      refine bodyPost_ret (v := .tuple #[.agg #[.bool false, .slice none 0 0, .slice none 0 0, .slice none 0 0], .int .i64 E2]) (by simp [results, Tryz.results58, go_sem, r0, r1, r2, r3]) rfl (HQ.out _ HEE.out _ _ (answers_none (below_put4 HB4 hle _ _ _ _)))
    ·
     have z1' : (E1 != 0) = true := by simpa using z1
     have HEE : Hid (innR s = .inl E1) := HE.out E1 (j + 1) (by rw [hst', if_neg z1]) (by omega)
     clear hk1 hp1 hE1 hst hst' l1 l2 N sx b0 z1 N4 T4 b04 HB4 b3 hV4
     go_wp2_with (go_at_call 40; refine (cC1 _).mono ?_; rintro y w1 ⟨rfl, rfl⟩)
     refine bodyPost_ret (v := .tuple #[.agg #[.bool false, .slice none 0 0, .slice none 0 0, .slice none 0 0], .int .i64 E1]) (by simp [results, Tryz.results58, go_sem, r0, r1, r2, r3]) rfl (HQ.out _ HEE.out _ _ (answers_none (below_put4 HB hle _ _ _ _)))
   ·
    obtain rfl : j = c := by omega
    have hfin : Hid (innR s = if E1 = 0 then (if p1 = s.size ∧ rightN false xs [] (zs ++ [k1]) true = true then .inr (false, xs, [], zs ++ [k1]) else .inl 4) else .inl E1) := by show _ = _; rw [hk1, hp1, hE1]; exact HF.out p xs zs hst
    have X1 : Hid (∀ x ∈ xs, x.size ≤ maxLen) := fun x hx => Nat.le_trans (sx x hx) HS.out
    obtain ⟨a, d, a', d', a'', d'', rfl, e2, e3, i1, i2, i3, j1, j2, j3⟩ := N4.rows X1.out (fun x hx => by cases hx)
    have e3' : a'' = some ⟨ga, 0, none⟩ ∧ d'' = cap := by simp at e3; exact ⟨e3.1.symm, e3.2.symm⟩
    obtain ⟨rfl, rfl⟩ := e3'
    have NH : Hid (NodeAt V4 (w.heap.size + 1) (w.heap.size + 2) false (.slice a xs.length d) (.slice none 0 0) (.slice (some ⟨ga, 0, none⟩) (zs.length + 1) d'') xs [] (zs ++ [k1])) := N4
    clear r0 r1 r2 r3 g0 g1 g2 g3
    obtain ⟨⟨r0, r1, r2, r3⟩, g0, g1, g2, g3⟩ := id b04
    obtain ⟨⟨s0, s1, s2, s3⟩, -⟩ := N4.box
    have cR : Calls Tryz.prog 59 #[.agg #[.bool false, .slice a xs.length d, .slice none 0 0, .slice (some ⟨ga, 0, none⟩) (zs.length + 1) d''], .bool true] V4 fun e w' => e = .returned (.bool (rightN false xs [] (zs ++ [k1]) true)) ∧ Below V4.heap.size V4 w' := refNodeRight_any false a none (some ⟨ga, 0, none⟩) d 0 d'' _ 0 _ xs [] (zs ++ [k1]) true V4 rfl rfl (by simp) i1 (isS_nil _) i3
    have raw : Box4 (V3.setCell ⟨w.heap.size + 1, 3, none⟩ (.slice (some ⟨ga, 0, none⟩) (zs.length + 1) d'')) (w.heap.size + 1) (.bool false) (.slice a xs.length d) (.slice none 0 0) (.slice (some ⟨ga, 0, none⟩) (zs.length + 1) d'') := by rw [← HV4.out]; exact N4.box
    have rawb : Box4 (V3.setCell ⟨w.heap.size + 1, 3, none⟩ (.slice (some ⟨ga, 0, none⟩) (zs.length + 1) d'')) w.heap.size (.bool false) (.slice none 0 0) (.slice none 0 0) (.slice none 0 0) := by rw [← HV4.out]; exact b04
    have rawB : Below w.heap.size w (V3.setCell ⟨w.heap.size + 1, 3, none⟩ (.slice (some ⟨ga, 0, none⟩) (zs.length + 1) d'')) := by rw [← HV4.out]; exact HB4
    obtain ⟨⟨x0, x1, x2, x3⟩, -⟩ := raw
    clear l1 l2 hst sx e2 e3 i1 i2 i3 hk1 hp1 hE1 hV4
    by_cases z1 : E1 = 0
    ·
     subst z1
     by_cases hP : p1 = s.size
     ·
      subst hP
      cases hr : rightN false xs [] (zs ++ [k1]) true with
      | true =>
       rw [hr] at cR hfin
       replace hfin : Hid (innR s = .inr (false, xs, [], zs ++ [k1])) := by show _ = _; rw [hfin.out, if_pos rfl, if_pos ⟨rfl, rfl⟩]
       clear hr
       have J1 : Hid (From (w.heap.size + 2) a) := j1
       have J3 : Hid (From (w.heap.size + 2) (some ⟨ga, 0, none⟩)) := j3
       clear j1 j2 j3 N N4 T4 b3 b0
       go_wp2_with (first
        | (go_at_call 40; refine (cC1 _).mono ?_; rintro y w1 ⟨rfl, rfl⟩)
        | (at_builtin; refine Lib.wpList_append_run _ rfl _ _ _ _ rfl _ _ rfl rfl _ _ hrun1 ?_)
        | (go_at_call 59; (try rw [← HV4.out]); refine cR.mono ?_; rintro y w1 ⟨rfl, hb⟩; have NH1 : Hid (NodeAt w1 (w.heap.size + 1) (w.heap.size + 2) false (.slice a xs.length d) (.slice none 0 0) (.slice (some ⟨ga, 0, none⟩) (zs.length + 1) d'') xs [] (zs ++ [k1])) := NH.out.below hb; replace b04 := b04.below hb; replace HB4 := Below.tr HB4 hb; clear r0 r1 r2 r3 g0 g1 g2 g3; obtain ⟨⟨r0, r1, r2, r3⟩, g0, g1, g2, g3⟩ := id b04; clear s0 s1 s2 s3; obtain ⟨⟨s0, s1, s2, s3⟩, -⟩ := NH1.out.box; clear hb))
       have N4 := (((NH1.out.other (k := w.heap.size) (by omega) (by omega) 0 (.bool false)).other (k := w.heap.size) (by omega) (by omega) 1 (.slice a xs.length d)).other (k := w.heap.size) (by omega) (by omega) 2 (.slice none 0 0)).other (k := w.heap.size) (by omega) (by omega) 3 (.slice (some ⟨ga, 0, none⟩) (zs.length + 1) d'')
       obtain ⟨a1, d1, a1', d1', a1'', d1'', e1, e2, e3, i1, i2, i3, -, -, -⟩ := N4.rows X1.out (fun x hx => by cases hx)
       cases e1
       have e3' : a1'' = some ⟨ga, 0, none⟩ ∧ d1'' = d'' := by simp at e3; exact ⟨e3.1.symm, e3.2.symm⟩
       obtain ⟨rfl, rfl⟩ := e3'
       exact bodyPost_ret (v := .tuple #[.agg #[.bool false, .slice a xs.length d, .slice none 0 0, .slice (some ⟨ga, 0, none⟩) (zs.length + 1) d1''], .int .i64 0]) (by simp [results, Tryz.results58, go_sem, r0, r1, r2, r3]) rfl (HQ2.out _ hfin.out _ _ ⟨_, a, d, 0, none, 0, zs.length + 1, some ⟨ga, 0, none⟩, d1'', rfl, rfl, rfl, by simp, i1, isS_nil _, i3, J1.out.mono (by omega), from_nil _, J3.out.mono (by omega), below_put4 HB4 hle _ _ _ _⟩)
      | false =>
       rw [hr] at cR hfin
       replace hfin : Hid (innR s = .inl 4) := by show _ = _; rw [hfin.out, if_pos rfl, if_neg (by simp)]
       clear hr j1 j2 j3 N N4 T4 b3 b0
       go_wp2_with (first
        | (go_at_call 40; refine (cC1 _).mono ?_; rintro y w1 ⟨rfl, rfl⟩)
        | (at_builtin; refine Lib.wpList_append_run _ rfl _ _ _ _ rfl _ _ rfl rfl _ _ hrun1 ?_)
        | (go_at_call 59; (try rw [← HV4.out]); refine cR.mono ?_; rintro y w1 ⟨rfl, hb⟩; replace b04 := b04.below hb; replace HB4 := Below.tr HB4 hb; clear r0 r1 r2 r3 g0 g1 g2 g3; obtain ⟨⟨r0, r1, r2, r3⟩, g0, g1, g2, g3⟩ := id b04; clear hb))
       refine bodyPost_ret (v := .tuple #[.agg #[.bool false, .slice none 0 0, .slice none 0 0, .slice none 0 0], .int .i64 4]) (by simp [results, Tryz.results58, go_sem, r0, r1, r2, r3]) rfl (HQ.out _ hfin.out _ _ (answers_none (below_put4 HB4 hle _ _ _ _)))
     ·
      have hP' : (p1 != (s.size : Int)) = true := by simpa using hP
      replace hfin : Hid (innR s = .inl 4) := by show _ = _; rw [hfin.out, if_pos rfl, if_neg (fun h => hP h.1)]
      clear r0 r1 r2 r3 g0 g1 g2 g3
      obtain ⟨⟨r0, r1, r2, r3⟩, g0, g1, g2, g3⟩ := id rawb
      clear j1 j2 j3 N N4 T4 b3 b0 cR hP
      go_wp2_with (first
       | (go_at_call 40; refine (cC1 _).mono ?_; rintro y w1 ⟨rfl, rfl⟩)
       | (at_builtin; refine Lib.wpList_append_run _ rfl _ _ _ _ rfl _ _ rfl rfl _ _ hrun1 ?_))
      refine bodyPost_ret (v := .tuple #[.agg #[.bool false, .slice none 0 0, .slice none 0 0, .slice none 0 0], .int .i64 4]) (by simp [results, Tryz.results58, go_sem, r0, r1, r2, r3]) rfl (HQ.out _ hfin.out _ _ (answers_none (below_put4 rawB hle _ _ _ _)))
    ·
     have z1' : (E1 != 0) = true := by simpa using z1
     replace hfin : Hid (innR s = .inl E1) := by show _ = _; rw [hfin.out, if_neg z1]
     clear r0 r1 r2 r3 g0 g1 g2 g3
     obtain ⟨⟨r0, r1, r2, r3⟩, g0, g1, g2, g3⟩ := id rawb
     clear j1 j2 j3 N N4 T4 b3 b0 cR z1
     go_wp2_with (first
      | (go_at_call 40; refine (cC1 _).mono ?_; rintro y w1 ⟨rfl, rfl⟩)
      | (at_builtin; refine Lib.wpList_append_run _ rfl _ _ _ _ rfl _ _ rfl rfl _ _ hrun1 ?_))
     refine bodyPost_ret (v := .tuple #[.agg #[.bool false, .slice none 0 0, .slice none 0 0, .slice none 0 0], .int .i64 E1]) (by simp [results, Tryz.results58, go_sem, r0, r1, r2, r3]) rfl (HQ.out _ hfin.out _ _ (answers_none (below_put4 rawB hle _ _ _ _)))
 ·
  have hb' : (getE s 0 1 != 0) = true := by simpa using h0
  have eR : getR s 0 1 = 0 := by unfold getR; rw [if_neg h0]
  have HEE : Hid (innR s = .inl (getE s 0 1)) := by show _ = _; unfold innR; rw [if_neg h0]
  rw [eR] at cG
  generalize getE s 0 1 = E1 at *
  generalize getT s 0 1 = T1 at *
  obtain ⟨⟨r0, r1, r2, r3⟩, g0, g1, g2, g3⟩ := id b0
  clear eR h0 N0 bn hsz
  go_enter Tryz.func58, Tryz.ntmps58
  go_wp2_with (go_at_call 40; rw [← hW]; refine (cG _).mono ?_; rintro y w1 ⟨rfl, rfl⟩)
  rw [← hW]
  clear hW cG
  go_loopw [10] (fun v wr => v = .int .i64 0 ∧ wr = W) (fun _ _ => 0)
  case atStart => exact ⟨rfl, rfl⟩
  case round =>
   obtain ⟨rfl, hwr⟩ := hrel
   subst hwr
   go_wp2
   refine bodyPost_ret (v := .tuple #[.agg #[.bool false, .slice none 0 0, .slice none 0 0, .slice none 0 0], .int .i64 E1]) (by simp [results, Tryz.results58, go_sem, r0, r1, r2, r3]) rfl (HQ.out _ HEE.out _ _ (answers_none (below_put4 hB0 hle _ _ _ _)))
set_option maxHeartbeats 1000000 in
theorem refGetKind_any (kind : Int) (s : ByteArray) (w : World) (h1 : kind ≠ 1) (h2 : kind ≠ 2) :
  Calls Tryz.prog 58 #[.int .i64 kind, .string s] w fun x w' => Answers w x w' false [] [] [] 81 := by
 have k1 : (kind != 1) = true := by simpa using h1
 have k2 : (kind != 2) = true := by simpa using h2
 have b0 := box4_new w (.bool false) (.slice none 0 0) (.slice none 0 0) (.slice none 0 0) 76 rfl
 have hB0 : Below w.heap.size w (w.alloc (.cells #[.bool false, .slice none 0 0, .slice none 0 0, .slice none 0 0] 76)) := (Below.refl _ _).alloc (Nat.le_refl _) _
 obtain ⟨⟨z0, z1, z2, z3⟩, y0, y1, y2, y3⟩ := id b0
 go_enter Tryz.func58, Tryz.ntmps58
 go_wp2
 exact bodyPost_ret (v := .tuple #[.agg #[.bool false, .slice none 0 0, .slice none 0 0, .slice none 0 0], .int .i64 81]) (by simp [results, Tryz.results58, go_sem, z0, z1, z2, z3]) rfl (answers_none hB0)
theorem refNodeGet_any (kind : Int) (s : ByteArray) (w : World) (hs : s.size ≤ maxLen) :
  Calls Tryz.prog 58 #[.int .i64 kind, .string s] w fun x w' => Answers w x w' (gN kind s).1 (gN kind s).2.1 (gN kind s).2.2.1 (gN kind s).2.2.2 (gE kind s) := by
 by_cases h1 : kind = 1
 ·
  subst h1; exact refGetLeaf_any s w hs
 ·
  by_cases h2 : kind = 2
  ·
   subst h2; exact refGetInner_any s w hs
  ·
   have hR : nodeR kind s = .inl 81 := by unfold nodeR; rw [if_neg h1, if_neg h2]
   obtain ⟨g1, g2⟩ := g_inl hR
   rw [g1, g2]
   exact refGetKind_any kind s w h1 h2
end Go.Proofs.YtaecfbfcjaailaaGreat
namespace Go.Proofs.YtaecfbfcjaailaaGreat.Plain
open Go.RowKit
def bn (b : Bool) : Nat := if b then 1 else 0
def atB (l : List Bool) (i : Nat) : Bool := l[i]?.getD false
theorem atB_past {l : List Bool} {i : Nat} (h : l.length ≤ i) : atB l i = false := by
 unfold atB; rw [List.getElem?_eq_none h]; rfl
theorem atB_some {l : List Bool} {i : Nat} {x : Bool} (h : l[i]? = some x) : atB l i = x := by unfold atB; rw [h]; rfl
def lowB (l : List Bool) (p : Nat) : Nat → Nat
 | 0 => 0
 | k + 1 => lowB l p k + 2 ^ k * bn (atB l (p + k))
def longest : List (List Bool) → Nat
 | [] => 0
 | l :: ls => max l.length (longest ls)
theorem longest_le {ls : List (List Bool)} {l : List Bool} (h : l ∈ ls) : l.length ≤ longest ls := by
 induction ls with
 | nil => cases h
 | cons x xs ih =>
  rw [longest]
  rcases List.mem_cons.1 h with rfl | h
  ·
   omega
  ·
   have := ih h; omega
theorem longest_append (xs ys : List (List Bool)) : longest (xs ++ ys) = max (longest xs) (longest ys) := by
 induction xs with
 | nil => simp [longest]
 | cons x xs ih => rw [List.cons_append, longest, longest, ih]; omega
def howB (ls : List (List Bool)) (i : Nat) : Nat := ls.countP (fun l => atB l i)
theorem howB_all {ls : List (List Bool)} {i : Nat} : howB ls i = ls.length ↔ ∀ l ∈ ls, atB l i = true := List.countP_eq_length
theorem howB_none {ls : List (List Bool)} {i : Nat} : howB ls i = 0 ↔ ∀ l ∈ ls, ¬ atB l i = true := by
 unfold howB; rw [List.countP_eq_zero]
def countN (ls : List (List Bool)) : Nat → Nat
 | 0 => 0
 | n + 1 => countN ls n + bn (decide (howB ls n = ls.length))
def countB (ls : List (List Bool)) : Nat := countN ls (longest ls)
theorem countN_past {ls : List (List Bool)} {l : List Bool} (hl : l ∈ ls) (n : Nat) (h : l.length ≤ n) : countN ls n = countN ls l.length := by
 induction n with
 | zero => congr 1; omega
 | succ n ih =>
  by_cases e : l.length = n + 1
  ·
   rw [e]
  ·
   rw [countN, ih (by omega), decide_eq_false, bn]
   ·
    rfl
   ·
    rw [howB_all]
    intro hh
    have := hh l hl
    rw [atB_past (by omega)] at this
    cases this
def firstN (ls : List (List Bool)) (i : Nat) : Nat → Int
 | 0 => -1
 | n + 1 => if howB ls i = 0 then i else firstN ls (i + 1) n
def firstB (fr : Int) (ls : List (List Bool)) : Int := firstN ls fr.toNat (longest ls - fr.toNat)
theorem firstN_spec (ls : List (List Bool)) (i n : Nat) :
  (firstN ls i n = -1 ∧ ∀ j, i ≤ j → j < i + n → howB ls j ≠ 0) ∨
  (∃ p : Nat, firstN ls i n = p ∧ i ≤ p ∧ p < i + n ∧ howB ls p = 0 ∧ ∀ j, i ≤ j → j < p → howB ls j ≠ 0) := by
 induction n generalizing i with
 | zero => exact .inl ⟨rfl, fun j h1 h2 => by omega⟩
 | succ n ih =>
  rw [firstN]
  by_cases h : howB ls i = 0
  ·
   rw [if_pos h]
   exact .inr ⟨i, rfl, Nat.le_refl _, by omega, h, fun j h1 h2 => by omega⟩
  ·
   rw [if_neg h]
   rcases ih (i + 1) with ⟨e, hn⟩ | ⟨p, e, h1, h2, h3, h4⟩
   ·
    refine .inl ⟨e, fun j a b => ?_⟩
    by_cases hj : j = i
    ·
     subst hj; exact h
    ·
     exact hn j (by omega) (by omega)
   ·
    refine .inr ⟨p, e, by omega, by omega, h3, fun j a b => ?_⟩
    by_cases hj : j = i
    ·
     subst hj; exact h
    ·
     exact h4 j (by omega) b
theorem firstB_spec (fr : Int) (ls : List (List Bool)) :
  (firstB fr ls = -1 ∧ ∀ j : Nat, fr ≤ j → j < longest ls → howB ls j ≠ 0) ∨
  (∃ p : Nat, firstB fr ls = p ∧ fr ≤ p ∧ p < longest ls ∧ howB ls p = 0 ∧ ∀ j : Nat, fr ≤ j → j < p → howB ls j ≠ 0) := by
 unfold firstB
 rcases firstN_spec ls fr.toNat (longest ls - fr.toNat) with ⟨e, hn⟩ | ⟨p, e, h1, h2, h3, h4⟩
 ·
  exact .inl ⟨e, fun j a b => hn j (by omega) (by omega)⟩
 ·
  exact .inr ⟨p, e, by omega, by omega, h3, fun j a b => h4 j (by omega) b⟩
theorem firstB_none {fr : Int} {ls : List (List Bool)} (h : ∀ j : Nat, fr ≤ j → j < longest ls → howB ls j ≠ 0) : firstB fr ls = -1 := by
 rcases firstB_spec fr ls with ⟨e, _⟩ | ⟨p, _, h1, h2, h3, _⟩
 ·
  exact e
 ·
  exact absurd h3 (h p h1 h2)
theorem firstB_is {fr : Int} {ls : List (List Bool)} {p : Nat} (h1 : fr ≤ p) (h2 : p < longest ls) (h3 : howB ls p = 0) (h4 : ∀ j : Nat, fr ≤ j → j < p → howB ls j ≠ 0) : firstB fr ls = p := by
 rcases firstB_spec fr ls with ⟨_, hn⟩ | ⟨q, e, g1, g2, g3, g4⟩
 ·
  exact absurd h3 (hn p h1 h2)
 ·
  rw [e]
  rcases Nat.lt_trichotomy p q with h | h | h
  ·
   exact absurd h3 (g4 p h1 h)
  ·
   rw [h]
  ·
   exact absurd g3 (h4 q g1 h)
def placesOk (l : List Bool) (ps : List Int) : Bool := ps.all fun p => decide (0 ≤ p) && decide (p < l.length)
def setB (l : List Bool) (is : Bool) : List Int → List Bool
 | [] => l
 | p :: ps => setB (l.set p.toNat is) is ps
def withE (l : List Bool) (ps : List Int) : Int := if placesOk l ps then 0 else 1
def withL (l : List Bool) (is : Bool) (ps : List Int) : List Bool := if placesOk l ps then setB l is ps else []
theorem setB_length (l : List Bool) (is : Bool) (ps : List Int) : (setB l is ps).length = l.length := by
 induction ps generalizing l with
 | nil => rfl
 | cons p ps ih => rw [setB, ih, List.length_set]
theorem setB_append (l : List Bool) (is : Bool) (ps qs : List Int) : setB l is (ps ++ qs) = setB (setB l is ps) is qs := by
 induction ps generalizing l with
 | nil => rfl
 | cons p ps ih => rw [List.cons_append, setB, setB, ih]
end Go.Proofs.YtaecfbfcjaailaaGreat.Plain
namespace Go.Proofs.YtaecfbfcjaailaaGreat
open Go.RowKit Plain Go.ChangeShapes Go.WideShapes
set_option linter.unusedVariables false
def IsB (w : World) (a : Option Addr) (c : Nat) (l : List Bool) : Prop :=
 l.length ≤ c ∧ c ≤ maxLen ∧ ∀ j x, l[j]? = some x → ∃ b o, a = some ⟨b, o, none⟩ ∧ b < w.heap.size ∧ w.cell? ⟨b, o + j, none⟩ = some (.bool x)
theorem IsB_nil (w : World) : IsB w none 0 [] := ⟨Nat.le_refl _, Nat.zero_le _, fun j x hx => by simp at hx⟩
theorem IsB.below {w w' : World} {a : Option Addr} {c : Nat} {l : List Bool} (h : IsB w a c l) (hb : Below w.heap.size w w') : IsB w' a c l := by
 refine ⟨h.1, h.2.1, fun j x hx => ?_⟩
 obtain ⟨b, o, ha, hlt, hc⟩ := h.2.2 j x hx
 exact ⟨b, o, ha, Nat.lt_of_lt_of_le hlt hb.size, by rw [hb.cell (p := ⟨b, o + j, none⟩) hlt]; exact hc⟩
theorem IsB.take {w : World} {a : Option Addr} {c : Nat} {l : List Bool} (h : IsB w a c l) (n : Nat) : IsB w a c (l.take n) := by
 refine ⟨by rw [List.length_take]; have := h.1; omega, h.2.1, fun j x hx => h.2.2 j x ?_⟩
 rw [List.getElem?_take] at hx
 split at hx
 ·
  exact hx
 ·
  cases hx
theorem IsB.some {w : World} {a : Option Addr} {c : Nat} {l : List Bool} (h : IsB w a c l) (h0 : 0 < l.length) : ∃ b o, a = .some ⟨b, o, none⟩ ∧ b < w.heap.size := by
 obtain ⟨b, o, ha, hl, _⟩ := h.2.2 0 l[0] (List.getElem?_eq_getElem h0)
 exact ⟨b, o, ha, hl⟩
theorem IsB.at {w : World} {b o c : Nat} {l : List Bool} (h : IsB w (.some ⟨b, o, none⟩) c l) {j : Nat} {x : Bool} (hx : l[j]? = .some x) : w.cell? ⟨b, o + j, none⟩ = .some (.bool x) := by
 obtain ⟨b', o', he, _, hc⟩ := h.2.2 j x hx
 cases he
 exact hc
theorem open_B {H : Type} {enc : TypeId × Value → H} {w : World} {fuel : Nat} {v : Value} {x : DataW H × List MemPlace}
  (h : DataW.trod enc Tryz.prog w 0 (fun _ => true) true fuel 22 [v] = some x) : ∃ a c l, v = .slice a l.length c ∧ IsB w a c l := by
 rcases Deep.open_bools Tryz.underlying22 Tryz.underlying4 (by kernel_rfl) h with ⟨hcs, _⟩ | ⟨a, n, c, B, hcs, _, hl, hm, _, hcell⟩
 ·
  simp at hcs
  exact ⟨none, 0, [], hcs, Nat.le_refl _, Nat.zero_le _, fun j m hj => by simp at hj⟩
 ·
  simp at hcs
  refine ⟨some a, c, (List.range n).map B, by simpa using hcs, by simpa using hl, hm, fun j y hy => ?_⟩
  have hj : j < n := by simpa using (List.getElem?_eq_some_iff.1 hy).1
  rw [List.getElem?_map, List.getElem?_range hj] at hy
  simp at hy
  subst hy
  obtain ⟨b, o, rfl, hb⟩ := spot_none (hcell 0 (by omega))
  have hc := hcell j (by omega)
  rw [at_add] at hc
  exact ⟨b, o, rfl, hb, hc⟩
def RowT (w : World) (g cap : Nat) (l : List Bool) : Prop :=
 ∃ cur : Array Value, w.heap[g]? = some (.cells cur 4 (0, 0)) ∧ cur.toList.take l.length = l.map Value.bool ∧ l.length ≤ cap ∧ cap ≤ maxLen ∧ cur.size = cap
theorem RowT.lt {w : World} {g cap : Nat} {l : List Bool} (h : RowT w g cap l) : g < w.heap.size := by
 obtain ⟨cur, hg, _⟩ := h
 exact (Array.getElem?_eq_some_iff.1 hg).1
theorem RowT.below {w w' : World} {g cap : Nat} {l : List Bool} (h : RowT w g cap l) (hb : Below w.heap.size w w') : RowT w' g cap l := by
 have hl := h.lt
 obtain ⟨cur, hg, hr⟩ := h
 exact ⟨cur, by rw [hb.block g hl]; exact hg, hr⟩
theorem RowT.cell {w : World} {g cap : Nat} {l : List Bool} (h : RowT w g cap l) {j : Nat} {x : Bool} (hx : l[j]? = some x) : w.cell? ⟨g, j, none⟩ = some (.bool x) ∧ w.frozen? ⟨g, j, none⟩ = false := by
 obtain ⟨cur, hg, ht, hl, _, hs⟩ := h
 have hj := (List.getElem?_eq_some_iff.1 hx).1
 have hc : cur[j]? = some (.bool x) := by
  rw [← Array.getElem?_toList]
  have : (cur.toList.take l.length)[j]? = some (.bool x) := by rw [ht, List.getElem?_map, hx]; rfl
  rwa [List.getElem?_take_of_lt hj] at this
 exact ⟨by rw [Joins.cell_of_block hg]; exact hc, Joins.unfrozen_of_block hg j⟩
theorem RowT.set {w : World} {g cap : Nat} {l : List Bool} (h : RowT w g cap l) (j : Nat) (x : Bool) : RowT (w.setCell ⟨g, j, none⟩ (.bool x)) g cap (l.set j x) := by
 obtain ⟨cur, hg, ht, hl, hm, hs⟩ := h
 refine ⟨_, Joins.block_setCell hg _, ?_, by rw [List.length_set]; exact hl, hm, by rw [Array.size_setIfInBounds]; exact hs⟩
 rw [List.length_set, Array.toList_setIfInBounds, List.take_set, ht, List.map_set]
theorem RowT.isB {w : World} {g cap : Nat} {l : List Bool} (h : RowT w g cap l) : IsB w (some ⟨g, 0, none⟩) cap l := by
 have hl := h.lt
 have hc := h
 obtain ⟨cur, hg, ht, h1, h2, hs⟩ := h
 exact ⟨h1, h2, fun j x hx => ⟨g, 0, rfl, hl, by rw [Nat.zero_add]; exact (hc.cell hx).1⟩⟩
theorem RowT.new (W : World) (n : Nat) {Z : Array Value} (hZ : Z = (List.replicate n (Value.bool false)).toArray) {g : Nat} (hg : g = W.heap.size) (hn : n ≤ maxLen) : RowT (W.alloc (.cells Z 4)) g n (List.replicate n false) := by
 subst hg hZ
 refine ⟨_, heap_new W _, ?_, by simp, hn, by simp⟩
 simp
theorem ownsRow_T {w : World} {base : Nat} {v : Value} {l : List Bool} (h : w.ownsRow base 4 1 v l.length (l.map Value.bool)) : (v = .slice none 0 0 ∧ l = []) ∨ ∃ g cap, v = .slice (some ⟨g, 0, none⟩) l.length cap ∧ base ≤ g ∧ RowT w g cap l := by
 rcases h.2 with ⟨h1, h2⟩ | ⟨g, cap, cur, rfl, hg, hcur, hnc, hcm, hsz, htk⟩
 ·
  exact .inl ⟨h1, List.length_eq_zero_iff.1 h2⟩
 ·
  exact .inr ⟨g, cap, rfl, hg, cur, hcur, by simpa using htk, by omega, hcm, by omega⟩
def Kept (g : Nat) (W wr : World) : Prop := W.heap.size ≤ wr.heap.size ∧ ∀ k, k < W.heap.size → k ≠ g → wr.heap[k]? = W.heap[k]?
theorem Kept.below {g : Nat} {W wr w' : World} (h : Kept g W wr) (hb : Below wr.heap.size wr w') : Kept g W w' :=
 ⟨Nat.le_trans h.1 hb.size, fun k hk hn => by rw [hb.block k (Nat.lt_of_lt_of_le hk h.1)]; exact h.2 k hk hn⟩
theorem Kept.set {g : Nat} {W wr : World} (h : Kept g W wr) (j : Nat) (v : Value) : Kept g W (wr.setCell ⟨g, j, none⟩ v) :=
 ⟨by simpa using h.1, fun k hk hn => by rw [Below.heap_setCell _ _ _ _ hn]; exact h.2 k hk hn⟩
theorem Kept.cell {g : Nat} {W wr : World} (h : Kept g W wr) {p : Addr} {v : Value} (hn : p.block ≠ g) (hc : W.cell? p = some v) : wr.cell? p = some v := by
 rw [World.cell?_of_block (w := W) (h.2 p.block (cell_lt hc) hn)]; exact hc
def rowsOf (ds : List (Option Addr × Nat × List Bool)) : List (List Bool) := ds.map (·.2.2)
theorem rowsOf_get {ds : List (Option Addr × Nat × List Bool)} {j : Nat} {d : (Option Addr × Nat × List Bool)} (h : ds[j]? = some d) : (rowsOf ds)[j]? = some d.2.2 := by unfold rowsOf; rw [List.getElem?_map, h]; rfl
def IsL (w : World) (a : Option Addr) (c : Nat) (ds : List (Option Addr × Nat × List Bool)) : Prop :=
 ds.length ≤ c ∧ c ≤ maxLen ∧ ∀ j d, ds[j]? = some d → IsB w d.1 d.2.1 d.2.2 ∧ ∃ b o, a = some ⟨b, o, none⟩ ∧ b < w.heap.size ∧ w.cell? ⟨b, o + j, none⟩ = some (.slice d.1 d.2.2.length d.2.1)
theorem IsL.below {w w' : World} {a : Option Addr} {c : Nat} {ds : List (Option Addr × Nat × List Bool)} (h : IsL w a c ds) (hb : Below w.heap.size w w') : IsL w' a c ds := by
 refine ⟨h.1, h.2.1, fun j x hx => ?_⟩
 obtain ⟨hB, b, o, ha, hlt, hc⟩ := h.2.2 j x hx
 exact ⟨hB.below hb, b, o, ha, Nat.lt_of_lt_of_le hlt hb.size, by rw [hb.cell (p := ⟨b, o + j, none⟩) hlt]; exact hc⟩
theorem IsL.take {w : World} {a : Option Addr} {c : Nat} {ds : List (Option Addr × Nat × List Bool)} (h : IsL w a c ds) (n : Nat) : IsL w a c (ds.take n) := by
 refine ⟨by rw [List.length_take]; have := h.1; omega, h.2.1, fun j x hx => h.2.2 j x ?_⟩
 rw [List.getElem?_take] at hx
 split at hx
 ·
  exact hx
 ·
  cases hx
theorem IsL.some {w : World} {a : Option Addr} {c : Nat} {ds : List (Option Addr × Nat × List Bool)} (h : IsL w a c ds) (h0 : 0 < ds.length) : ∃ b o, a = .some ⟨b, o, none⟩ ∧ b < w.heap.size := by
 obtain ⟨_, b, o, ha, hl, _⟩ := h.2.2 0 ds[0] (List.getElem?_eq_getElem h0)
 exact ⟨b, o, ha, hl⟩
theorem IsL.rows_le {w : World} {a : Option Addr} {c : Nat} {ds : List (Option Addr × Nat × List Bool)} (h : IsL w a c ds) : ∀ l ∈ rowsOf ds, l.length ≤ maxLen := by
 intro l hl
 obtain ⟨d, hd, rfl⟩ := List.mem_map.1 hl
 obtain ⟨j, hj⟩ := List.getElem?_of_mem hd
 have := (h.2.2 j d hj).1
 exact Nat.le_trans this.1 this.2.1
theorem longest_bound {ls : List (List Bool)} {n : Nat} (h : ∀ l ∈ ls, l.length ≤ n) : longest ls ≤ n := by
 induction ls with
 | nil => exact Nat.zero_le _
 | cons x xs ih =>
  rw [longest]
  have := h x (by simp)
  have := ih fun l hl => h l (by simp [hl])
  omega
end Go.Proofs.YtaecfbfcjaailaaGreat
namespace Go.Proofs.YtaecfbfcjaailaaGreat
open Go.RowKit Plain
set_option linter.unusedVariables false
set_option maxHeartbeats 1000000 in
theorem same_any (a a' : Option Addr) (c c' : Nat) (l m : List Bool) (w : World) (hB : IsB w a c l) (hB' : IsB w a' c' m) :
  Calls Tryz.prog 57 #[.slice a l.length c, .slice a' m.length c'] w fun e w' => e = .returned (.bool (decide (l = m))) ∧ Below w.heap.size w w' := by
 obtain ⟨n, hn⟩ : ∃ n, n = l.length := ⟨_, rfl⟩
 obtain ⟨n', hn'⟩ : ∃ n, n = m.length := ⟨_, rfl⟩
 have HB : Hid (IsB w a c l) := hB
 have HB' : Hid (IsB w a' c' m) := hB'
 have HE : Hid (n = l.length) := hn
 have HE' : Hid (n' = m.length) := hn'
 have hnb : n ≤ 9223372036854775807 := by have := hB.1; have := hB.2.1; unfold maxLen at *; omega
 rw [← hn, ← hn']
 clear hB hB' hn hn'
 by_cases h : n = n'
 ·
  have h' : (n : Int) = n' := by omega
  subst h
  go_enter Tryz.func57, Tryz.ntmps57
  go_wp2
  go_loopw [13] (fun v wr => ∃ j : Nat, j ≤ n ∧ v = .int .i64 j ∧ (∀ i, i < j → l[i]? = m[i]?) ∧ Below w.heap.size w wr) (fun v _ => n - (intOf v).toNat)
  case atStart => exact ⟨0, by omega, rfl, fun i hi => by omega, Below.refl _ _⟩
  case round =>
   obtain ⟨j, hj, rfl, hs, hbel⟩ := hrel
   have HS : Hid (∀ i, i < j → l[i]? = m[i]?) := hs
   clear hs
   by_cases hlt : j < n
   ·
    have hlt' : (j : Int) < n := by omega
    obtain ⟨q, hq⟩ : ∃ q, Hid (l[j]? = some q) := ⟨_, List.getElem?_eq_getElem (by rw [← HE.out]; exact hlt)⟩
    obtain ⟨r, hr⟩ : ∃ q, Hid (m[j]? = some q) := ⟨_, List.getElem?_eq_getElem (by rw [← HE'.out]; exact hlt)⟩
    obtain ⟨b, o, rfl, hbl, hc0⟩ := HB.out.2.2 j q hq.out
    obtain ⟨b', o', rfl, hbl', hc0'⟩ := HB'.out.2.2 j r hr.out
    have hc := cell_below hbel hc0
    have hc' := cell_below hbel hc0'
    by_cases e : q = r
    ·
     have e1 : (!q == r) = false := by rw [e]; simp
     go_wp2
     go_region
     go_wp2
     go_roundw
     case rel =>
      refine ⟨j + 1, by omega, by go_num, fun i hi => ?_, hbel.drew⟩
      by_cases ei : i = j
      ·
       rw [ei, hq.out, hr.out, e]
      ·
       exact HS.out i (by omega)
     case measure => simp [intOf]; omega
    ·
     have e1 : (!q == r) = true := by simp [e]
     have hne : Hid (decide (l = m) = false) := by
      show _ = _
      rw [decide_eq_false_iff_not]
      rintro rfl
      have := hq.out
      rw [hr.out] at this
      exact e (Option.some.inj this).symm
     go_wp2
     go_region
     go_wp2
     go_ret
     exact ⟨ret_bool hne.out.symm, hbel.drew⟩
   ·
    obtain rfl : j = n := by omega
    have heq : Hid (decide (l = m) = true) := by
     show _ = _
     rw [decide_eq_true_eq]
     apply List.ext_getElem?
     intro i
     by_cases hi : i < j
     ·
      exact HS.out i hi
     ·
      rw [List.getElem?_eq_none (by rw [← HE.out]; omega), List.getElem?_eq_none (by rw [← HE'.out]; omega)]
    go_wp2
    go_ret
    exact ⟨ret_bool heq.out.symm, hbel⟩
 ·
  have h' : ((n : Int) != n') = true := by simp; omega
  have hne : Hid (decide (l = m) = false) := by
   show _ = _
   rw [decide_eq_false_iff_not]
   rintro rfl
   exact h (HE.out.trans HE'.out.symm)
  go_enter Tryz.func57, Tryz.ntmps57
  go_wp2
  go_ret
  exact ⟨ret_bool hne.out.symm, Below.refl _ _⟩
def least (n : Nat) : List (List Bool) → Nat
 | [] => n
 | l :: ls => least (min n l.length) ls
theorem least_append (n : Nat) (xs ys : List (List Bool)) : least n (xs ++ ys) = least (least n xs) ys := by
 induction xs generalizing n with
 | nil => rfl
 | cons x xs ih => rw [List.cons_append, least, least, ih]
theorem least_le (n : Nat) (ls : List (List Bool)) : least n ls ≤ n := by
 induction ls generalizing n with
 | nil => exact Nat.le_refl _
 | cons x xs ih => rw [least]; have := ih (min n x.length); omega
theorem least_mem (n : Nat) (ls : List (List Bool)) : ∀ l ∈ ls, least n ls ≤ l.length := by
 induction ls generalizing n with
 | nil => intro l hl; cases hl
 | cons x xs ih =>
  intro l hl
  rw [least]
  rcases List.mem_cons.1 hl with rfl | hl
  ·
   have := least_le (min n l.length) xs; omega
  ·
   exact ih _ l hl
theorem least_is (n : Nat) (ls : List (List Bool)) : least n ls = n ∨ ∃ l ∈ ls, l.length = least n ls := by
 induction ls generalizing n with
 | nil => exact .inl rfl
 | cons x xs ih =>
  rw [least]
  rcases ih (min n x.length) with h | ⟨l, hl, h⟩
  ·
   rw [h]
   by_cases e : n ≤ x.length
   ·
    exact .inl (by omega)
   ·
    exact .inr ⟨x, by simp, by omega⟩
  ·
   exact .inr ⟨l, by simp [hl], h⟩
def shortestB (ls : List (List Bool)) : Nat := match ls with
 | [] => 0
 | l :: _ => least l.length ls
theorem shortestB_is {ls : List (List Bool)} (h : ls ≠ []) : ∃ l ∈ ls, l.length = shortestB ls := by
 cases ls with
 | nil => exact absurd rfl h
 | cons x xs =>
  rcases least_is x.length (x :: xs) with h | h
  ·
   exact ⟨x, by simp, h.symm⟩
  ·
   exact h
theorem shortestB_le (ls : List (List Bool)) : ∀ l ∈ ls, shortestB ls ≤ l.length := by
 cases ls with
 | nil => intro l hl; cases hl
 | cons x xs => exact least_mem _ _
theorem countB_short (ls : List (List Bool)) : countN ls (shortestB ls) = countB ls := by
 by_cases h : ls = []
 ·
  subst h; rfl
 ·
  obtain ⟨l, hl, he⟩ := shortestB_is h
  unfold countB
  rw [← he, ← countN_past hl _ (longest_le hl)]
theorem take_rows {ds : List (Option Addr × Nat × List Bool)} {j : Nat} {d : (Option Addr × Nat × List Bool)} (h : ds[j]? = some d) : rowsOf (ds.take (j + 1)) = rowsOf (ds.take j) ++ [d.2.2] := by
 unfold rowsOf; rw [List.take_add_one, h, List.map_append]; rfl
set_option maxHeartbeats 1000000 in
theorem longest_any (a : Option Addr) (c : Nat) (ds : List (Option Addr × Nat × List Bool)) (w : World) (hL : IsL w a c ds) :
  Calls Tryz.prog 138 #[.slice a ds.length c] w fun e w' => e = .returned (.int .i64 (longest (rowsOf ds))) ∧ w = w' := by
 obtain ⟨n, hn⟩ : ∃ n, n = ds.length := ⟨_, rfl⟩
 have hnb : n ≤ 9223372036854775807 := by rw [hn]; exact Nat.le_trans hL.1 hL.2.1
 have HL : Hid (IsL w a c ds) := hL
 have HN : Hid (n = ds.length) := hn
 rw [← hn]
 clear hL hn
 go_enter Tryz.func138, Tryz.ntmps138
 go_wp2
 go_loopw [3, 7] (fun u v wr => ∃ j m : Nat, j ≤ n ∧ v = .int .i64 j ∧ m = longest (rowsOf (ds.take j)) ∧ u = .int .i64 m ∧ w = wr) (fun _ v _ => n - (intOf v).toNat)
 case atStart => exact ⟨0, 0, by omega, rfl, rfl, rfl, by trivial⟩
 case round =>
  obtain ⟨j, m, hj, rfl, hm, rfl, rfl⟩ := hrel
  have HM : Hid (m = longest (rowsOf (ds.take j))) := hm
  clear hm
  by_cases hlt : j < n
  ·
   have hlt' : (j : Int) < n := by omega
   obtain ⟨d, hd⟩ : ∃ d, Hid (ds[j]? = some d) := ⟨_, List.getElem?_eq_getElem (by rw [← HN.out]; exact hlt)⟩
   obtain ⟨hdB, b, o, rfl, hbl, hc⟩ := HL.out.2.2 j d hd.out
   obtain ⟨k, hk⟩ : ∃ k, k = d.2.2.length := ⟨_, rfl⟩
   have hkb : k ≤ 9223372036854775807 := by rw [hk]; exact Nat.le_trans hdB.1 hdB.2.1
   rw [← hk] at hc
   have hnx : Hid (longest (rowsOf (ds.take (j + 1))) = max m k) := by
    show _ = _
    rw [take_rows hd.out, longest_append, ← HM.out, hk]
    simp [longest]
   generalize d.1 = da at hc hdB
   generalize d.2.1 = dc at hc hdB
   clear hdB hk hd
   obtain ⟨mx, hmx, hmx'⟩ : ∃ mx : Nat, Hid (mx = max m k) ∧ max (m : Int) k = mx := ⟨_, rfl, by omega⟩
   have hmr := max_run hmx'
   clear hmx'
   go_wp2
   go_roundw
   case rel => exact ⟨j + 1, mx, by omega, by go_num, by rw [hnx.out]; exact hmx.out, rfl, by trivial⟩
   case measure => simp [intOf]; omega
  ·
   obtain rfl : j = n := by omega
   have he : Hid ((m : Int) = ((longest (rowsOf ds) : Nat) : Int)) := by show _ = _; rw [HM.out, HN.out, List.take_length]
   go_wp2
   go_ret
   exact ⟨ret_int he.out, rfl⟩
theorem take_all {ds : List (Option Addr × Nat × List Bool)} {n : Nat} (h : n = ds.length) : rowsOf (ds.take n) = rowsOf ds := by rw [h, List.take_length]
set_option maxHeartbeats 1000000 in
theorem shortest_any (a : Option Addr) (c : Nat) (ds : List (Option Addr × Nat × List Bool)) (w : World) (hL : IsL w a c ds) :
  Calls Tryz.prog 76 #[.slice a ds.length c] w fun e w' => e = .returned (.int .i64 (shortestB (rowsOf ds))) ∧ w = w' := by
 obtain ⟨n, hn⟩ : ∃ n, n = ds.length := ⟨_, rfl⟩
 have hnb : n ≤ 9223372036854775807 := by rw [hn]; exact Nat.le_trans hL.1 hL.2.1
 have HL : Hid (IsL w a c ds) := hL
 have HN : Hid (n = ds.length) := hn
 rw [← hn]
 clear hL hn
 by_cases h0 : n = 0
 ·
  have he : Hid ((0 : Int) = ((shortestB (rowsOf ds) : Nat) : Int)) := by
   show _ = _
   have : ds = [] := List.length_eq_zero_iff.1 (HN.out.symm.trans h0)
   rw [this]; rfl
  subst h0
  go_enter Tryz.func76, Tryz.ntmps76
  go_wp2
  go_ret
  exact ⟨ret_int he.out, rfl⟩
 ·
  have h0' : ((n : Int) == 0) = false := by simp; omega
  have h0n : 0 < n := by omega
  have h0i : (0 : Int) < n := by omega
  obtain ⟨d0, hd0⟩ : ∃ d, Hid (ds[0]? = some d) := ⟨ds[0]'(by rw [← HN.out]; exact h0n), show _ = _ from List.getElem?_eq_getElem (by rw [← HN.out]; exact h0n)⟩
  obtain ⟨hdB0, b, o, rfl, hbl, hc0⟩ := HL.out.2.2 0 d0 hd0.out
  obtain ⟨k0, hk0⟩ : ∃ k, Hid (k = d0.2.2.length) := ⟨_, rfl⟩
  have hkb0 : k0 ≤ 9223372036854775807 := by rw [hk0.out]; exact Nat.le_trans hdB0.1 hdB0.2.1
  rw [← hk0.out] at hc0
  have hsh : Hid (shortestB (rowsOf ds) = least k0 (rowsOf ds)) := by
   show _ = _
   cases hds : ds with
   | nil => rw [hds] at hd0; cases hd0.out
   | cons x xs =>
    have hx := hd0.out
    rw [hds] at hx
    simp at hx
    subst hx
    rw [hk0.out]; rfl
  generalize d0.1 = da0 at hc0 hdB0
  generalize d0.2.1 = dc0 at hc0 hdB0
  clear hdB0 hd0
  rw [Nat.add_zero] at hc0
  go_enter Tryz.func76, Tryz.ntmps76
  go_wp2
  go_loopw [3, 14] (fun u v wr => ∃ j m : Nat, j ≤ n ∧ v = .int .i64 j ∧ m = least k0 (rowsOf (ds.take j)) ∧ m ≤ k0 ∧ u = .int .i64 m ∧ w = wr) (fun _ v _ => n - (intOf v).toNat)
  case atStart => exact ⟨0, k0, by omega, rfl, rfl, Nat.le_refl _, rfl, by trivial⟩
  case round =>
   obtain ⟨j, m, hj, rfl, hm, hmk, rfl, rfl⟩ := hrel
   have HM : Hid (m = least k0 (rowsOf (ds.take j))) := hm
   clear hm
   by_cases hlt : j < n
   ·
    have hlt' : (j : Int) < n := by omega
    obtain ⟨d, hd⟩ : ∃ d, Hid (ds[j]? = some d) := ⟨_, List.getElem?_eq_getElem (by rw [← HN.out]; exact hlt)⟩
    obtain ⟨hdB, b', o', he, hbl, hc⟩ := HL.out.2.2 j d hd.out
    cases he
    obtain ⟨k, hk⟩ : ∃ k, k = d.2.2.length := ⟨_, rfl⟩
    have hkb : k ≤ 9223372036854775807 := by rw [hk]; exact Nat.le_trans hdB.1 hdB.2.1
    rw [← hk] at hc
    have hnx : Hid (least k0 (rowsOf (ds.take (j + 1))) = min m k) := by
     show _ = _
     rw [take_rows hd.out, least_append, ← HM.out, hk]
     simp [least]
    generalize d.1 = da at hc hdB
    generalize d.2.1 = dc at hc hdB
    clear hdB hk hd
    obtain ⟨mx, hmx, hmx', hmk2⟩ : ∃ mx : Nat, Hid (mx = min m k) ∧ min (m : Int) k = mx ∧ mx ≤ k0 := ⟨_, rfl, by omega, by omega⟩
    have hmr := min_run hmx'
    clear hmx'
    go_wp2
    go_roundw
    case rel => exact ⟨j + 1, mx, by omega, by go_num, by rw [hnx.out]; exact hmx.out, hmk2, rfl, by trivial⟩
    case measure => simp [intOf]; omega
   ·
    obtain rfl : j = n := by omega
    have he : Hid ((m : Int) = ((shortestB (rowsOf ds) : Nat) : Int)) := by show _ = _; rw [HM.out, take_all HN.out, hsh.out]
    go_wp2
    go_ret
    exact ⟨ret_int he.out, rfl⟩
def allB (ls : List (List Bool)) (i : Nat) : Bool := decide (howB ls i = ls.length)
theorem allB_yes {ls : List (List Bool)} {i : Nat} (h : ∀ l ∈ ls, atB l i = true) : allB ls i = true := decide_eq_true (howB_all.2 h)
theorem allB_no {ls : List (List Bool)} {i : Nat} {l : List Bool} (hl : l ∈ ls) (h : atB l i = false) : allB ls i = false := by
 refine decide_eq_false fun hh => ?_
 have := howB_all.1 hh l hl
 rw [h] at this; cases this
set_option maxHeartbeats 1000000 in
theorem allHave_any (a : Option Addr) (c : Nat) (ds : List (Option Addr × Nat × List Bool)) (i : Nat) (w : World) (hL : IsL w a c ds) (hi : ∀ l ∈ rowsOf ds, i < l.length) :
  Calls Tryz.prog 77 #[.slice a ds.length c, .int .i64 i] w fun e w' => e = .returned (.bool (allB (rowsOf ds) i)) ∧ w = w' := by
 obtain ⟨n, hn⟩ : ∃ n, n = ds.length := ⟨_, rfl⟩
 have hnb : n ≤ 9223372036854775807 := by rw [hn]; exact Nat.le_trans hL.1 hL.2.1
 have HL : Hid (IsL w a c ds) := hL
 have HN : Hid (n = ds.length) := hn
 have HI : Hid (∀ l ∈ rowsOf ds, i < l.length) := hi
 rw [← hn]
 clear hL hn hi
 go_enter Tryz.func77, Tryz.ntmps77
 go_wp2
 go_loopw [8] (fun v wr => ∃ j : Nat, j ≤ n ∧ v = .int .i64 j ∧ (∀ l ∈ rowsOf (ds.take j), atB l i = true) ∧ w = wr) (fun v _ => n - (intOf v).toNat)
 case atStart => exact ⟨0, by omega, rfl, fun l hl => (by cases hl), by trivial⟩
 case round =>
  obtain ⟨j, hj, rfl, hall, rfl⟩ := hrel
  have HA : Hid (∀ l ∈ rowsOf (ds.take j), atB l i = true) := hall
  clear hall
  by_cases hlt : j < n
  ·
   have hlt' : (j : Int) < n := by omega
   obtain ⟨d, hd⟩ : ∃ d, Hid (ds[j]? = some d) := ⟨_, List.getElem?_eq_getElem (by rw [← HN.out]; exact hlt)⟩
   have hmem : Hid (d.2.2 ∈ rowsOf ds) := List.mem_of_getElem? (rowsOf_get hd.out)
   obtain ⟨hdB, b, o, rfl, hbl, hc⟩ := HL.out.2.2 j d hd.out
   obtain ⟨q, hq⟩ : ∃ q, Hid (d.2.2[i]? = some q) := ⟨_, List.getElem?_eq_getElem (HI.out _ hmem.out)⟩
   obtain ⟨b2, o2, ha2, hbl2, hc2⟩ := hdB.2.2 i q hq.out
   have hik : i < d.2.2.length := HI.out _ hmem.out
   rw [ha2] at hc
   obtain ⟨k, hk⟩ : ∃ k, k = d.2.2.length := ⟨_, rfl⟩
   rw [← hk] at hc hik
   have hik' : (i : Int) < k := by omega
   generalize d.2.1 = dc at hc hdB
   clear hdB hk
   cases q with
   | false =>
    have hE : Hid (allB (rowsOf ds) i = false) := allB_no hmem.out (atB_some hq.out)
    go_wp2
    go_ret
    exact ⟨ret_bool hE.out.symm, rfl⟩
   | true =>
    have hE : Hid (∀ l ∈ rowsOf (ds.take (j + 1)), atB l i = true) := by
     intro l hl
     rw [take_rows hd.out] at hl
     rcases List.mem_append.1 hl with h | h
     ·
      exact HA.out l h
     ·
      obtain rfl : l = d.2.2 := by simpa using h
      exact atB_some hq.out
    go_wp2
    go_roundw
    case rel => exact ⟨j + 1, by omega, by go_num, hE.out, by trivial⟩
    case measure => simp [intOf]; omega
  ·
   obtain rfl : j = n := by omega
   have hE : Hid (allB (rowsOf ds) i = true) := allB_yes (by have := HA.out; rw [take_all HN.out] at this; exact this)
   go_wp2
   go_ret
   exact ⟨ret_bool hE.out.symm, rfl⟩
theorem countN_succ (ls : List (List Bool)) (n : Nat) : countN ls (n + 1) = countN ls n + bn (allB ls n) := rfl
set_option maxHeartbeats 1000000 in
theorem count_any (a : Option Addr) (c : Nat) (ds : List (Option Addr × Nat × List Bool)) (w : World) (hL : IsL w a c ds) :
  Calls Tryz.prog 62 #[.slice a ds.length c] w fun e w' => e = .returned (.int .i64 (countB (rowsOf ds))) ∧ w = w' := by
 obtain ⟨n, hn⟩ : ∃ n, n = ds.length := ⟨_, rfl⟩
 obtain ⟨k, hk⟩ : ∃ k, k = shortestB (rowsOf ds) := ⟨_, rfl⟩
 have hnb : n ≤ 9223372036854775807 := by rw [hn]; exact Nat.le_trans hL.1 hL.2.1
 have hkb : k ≤ 9223372036854775807 := by
  rw [hk]
  by_cases h : rowsOf ds = []
  ·
   rw [h]; exact Nat.zero_le _
  ·
   obtain ⟨l, hl, he⟩ := shortestB_is h
   rw [← he]; exact hL.rows_le l hl
 have cs : ∀ W, w = W → Calls Tryz.prog 76 #[.slice a n c] W fun e w' => e = .returned (.int .i64 k) ∧ w = w' := by
  rintro W rfl; rw [hn, hk]; exact shortest_any a c ds w hL
 have ca : ∀ (i : Nat) W, i < k → w = W → Calls Tryz.prog 77 #[.slice a n c, .int .i64 i] W fun e w' => e = .returned (.bool (allB (rowsOf ds) i)) ∧ w = w' := by
  rintro i W hi rfl; rw [hn]; exact allHave_any a c ds i w hL fun l hl => by have := shortestB_le _ l hl; omega
 have HK : Hid (k = shortestB (rowsOf ds)) := hk
 rw [← hn]
 clear hL hn hk
 go_enter Tryz.func62, Tryz.ntmps62
 go_wp2_with (go_at_call 76; refine (cs _ rfl).mono ?_; rintro e w' ⟨rfl, rfl⟩)
 go_loopw [3, 7] (fun u v wr => ∃ j m : Nat, j ≤ k ∧ v = .int .i64 j ∧ m = countN (rowsOf ds) j ∧ m ≤ j ∧ u = .int .i64 m ∧ w = wr) (fun _ v _ => k - (intOf v).toNat)
 case atStart => exact ⟨0, 0, by omega, rfl, rfl, Nat.le_refl _, rfl, by trivial⟩
 case round =>
  obtain ⟨j, m, hj, rfl, hm, hmj, rfl, rfl⟩ := hrel
  have HM : Hid (m = countN (rowsOf ds) j) := hm
  clear hm
  by_cases hlt : j < k
  ·
   have hlt' : (j : Int) < k := by omega
   obtain ⟨q, hq⟩ : ∃ q, Hid (allB (rowsOf ds) j = q) := ⟨_, rfl⟩
   have ca' : ∀ W, w = W → Calls Tryz.prog 77 #[.slice a n c, .int .i64 j] W fun e w' => e = .returned (.bool q) ∧ w = w' := by
    intro W hW; rw [← hq.out]; exact ca j W hlt hW
   have hnx : Hid (countN (rowsOf ds) (j + 1) = m + bn q) := by show _ = _; rw [countN_succ, ← HM.out, hq.out]
   cases q with
   | true =>
    go_wp2_with (go_at_call 77; refine (ca' _ rfl).mono ?_; rintro e w' ⟨rfl, rfl⟩)
    go_roundw
    case rel => exact ⟨j + 1, m + 1, by omega, by go_num, hnx.out.symm, by omega, by go_num, by trivial⟩
    case measure => simp [intOf]; omega
   | false =>
    go_wp2_with (go_at_call 77; refine (ca' _ rfl).mono ?_; rintro e w' ⟨rfl, rfl⟩)
    go_roundw
    case rel => exact ⟨j + 1, m, by omega, by go_num, hnx.out.symm, by omega, rfl, by trivial⟩
    case measure => simp [intOf]; omega
  ·
   obtain rfl : j = k := by omega
   have he : Hid ((m : Int) = ((countB (rowsOf ds) : Nat) : Int)) := by show _ = _; rw [HM.out, HK.out, countB_short]
   go_wp2
   go_ret
   exact ⟨ret_int he.out, rfl⟩
def anyB (ls : List (List Bool)) (i : Nat) : Bool := ls.any fun l => atB l i
theorem anyB_how {ls : List (List Bool)} {i : Nat} : anyB ls i = false ↔ howB ls i = 0 := by
 rw [howB_none]
 unfold anyB
 rw [List.any_eq_false]
def eithN (N : Nat) (ls : List (List Bool)) (x : List Bool) (t : Nat) : List Bool := (List.range N).map fun i => anyB ls i || (decide (i < t) && atB x i)
theorem eithN_length (N : Nat) (ls : List (List Bool)) (x : List Bool) (t : Nat) : (eithN N ls x t).length = N := by simp [eithN]
theorem eithN_get {N i : Nat} (ls : List (List Bool)) (x : List Bool) (t : Nat) (h : i < N) : (eithN N ls x t)[i]? = some (anyB ls i || (decide (i < t) && atB x i)) := by
 unfold eithN; rw [List.getElem?_map, List.getElem?_range h]; rfl
theorem eithN_zero (N : Nat) (x : List Bool) : eithN N [] x 0 = List.replicate N false := by
 unfold eithN
 apply List.ext_getElem?
 intro i
 by_cases h : i < N
 ·
  rw [List.getElem?_map, List.getElem?_range h, List.getElem?_replicate, if_pos h]; simp [anyB]
 ·
  rw [List.getElem?_eq_none (by simp; omega), List.getElem?_eq_none (by simp; omega)]
theorem eithN_start (N : Nat) (ls : List (List Bool)) (x y : List Bool) : eithN N ls x 0 = eithN N ls y 0 := by
 unfold eithN; apply List.map_congr_left; intro i _; simp
theorem eithN_next (N : Nat) (ls : List (List Bool)) (x y : List Bool) (t : Nat) (ht : t = x.length) : eithN N ls x t = eithN N (ls ++ [x]) y 0 := by
 unfold eithN
 apply List.map_congr_left
 intro i _
 have : anyB (ls ++ [x]) i = (anyB ls i || atB x i) := by unfold anyB; rw [List.any_append]; simp
 rw [this]
 by_cases h : i < t
 ·
  simp [h]
 ·
  rw [atB_past (by omega)]; simp
theorem eithN_set {N t : Nat} (ls : List (List Bool)) (x : List Bool) (h : t < N) : (eithN N ls x t).set t (anyB ls t || atB x t) = eithN N ls x (t + 1) := by
 apply List.ext_getElem?
 intro i
 by_cases hi : i < N
 ·
  rw [eithN_get ls x (t + 1) hi]
  by_cases e : t = i
  ·
   subst e
   rw [List.getElem?_set_self (by rw [eithN_length]; exact h)]
   simp
  ·
   rw [List.getElem?_set_ne e, eithN_get ls x t hi, show decide (i < t + 1) = decide (i < t) from by rw [decide_eq_decide]; omega]
 ·
  rw [List.getElem?_eq_none (by rw [List.length_set, eithN_length]; omega), List.getElem?_eq_none (by rw [eithN_length]; omega)]
set_option maxRecDepth 20000 in
set_option maxHeartbeats 2000000 in
theorem either_any (a : Option Addr) (c : Nat) (ds : List (Option Addr × Nat × List Bool)) (w : World) (hL : IsL w a c ds) (hb : ∀ l ∈ rowsOf ds, l.length ≤ 4096) :
  Calls Tryz.prog 120 #[.slice a ds.length c] w fun e w' => e = .returned (.slice (some ⟨w.heap.size, 0, none⟩) (longest (rowsOf ds)) (longest (rowsOf ds))) ∧ RowT w' w.heap.size (longest (rowsOf ds)) (eithN (longest (rowsOf ds)) (rowsOf ds) [] 0) ∧ Below w.heap.size w w' := by
 obtain ⟨n, hn⟩ : ∃ n, n = ds.length := ⟨_, rfl⟩
 obtain ⟨N, hN⟩ : ∃ k, k = longest (rowsOf ds) := ⟨_, rfl⟩
 have hnb : n ≤ 9223372036854775807 := by rw [hn]; exact Nat.le_trans hL.1 hL.2.1
 have hNb : N ≤ 4096 := by rw [hN]; exact longest_bound hb
 have cl : ∀ W, w = W → Calls Tryz.prog 138 #[.slice a n c] W fun e w' => e = .returned (.int .i64 N) ∧ w = w' := by
  rintro W rfl; rw [hn, hN]; exact longest_any a c ds w hL
 have HL : Hid (IsL w a c ds) := hL
 have HN : Hid (n = ds.length) := hn
 have HX : Hid (∀ l ∈ rowsOf ds, l.length ≤ N) := fun l hl => by rw [hN]; exact longest_le hl
 obtain ⟨Z, hmk, hZ⟩ : ∃ Z : Array Value, (∀ W : World, (Instr.makeSlice 22 (.int .i64 N) (.int .i64 N)).run Tryz.prog W = .ok (.slice (some ⟨W.heap.size, 0, none⟩) N N) (W.alloc (.cells Z 4))) ∧ Hid (Z = (List.replicate N (Value.bool false)).toArray) :=
  ⟨madeCells #[.bool false] N, fun W => run_make_row' (P := Tryz.prog) 22 4 (.bool false) 1 Tryz.underlying22 Tryz.info4 rfl .i64 .i64 N (by omega) (by omega) W, made_one _ N⟩
 have HR : Hid (RowT (w.alloc (.cells Z 4)) w.heap.size N (eithN N (rowsOf (ds.take 0)) [] 0)) := by
  show RowT _ _ _ _
  rw [show rowsOf (ds.take 0) = [] from rfl, eithN_zero]
  exact RowT.new w N hZ.out rfl (by unfold maxLen; omega)
 rw [← hn, ← hN]
 clear hL hn hN hb
 go_enter Tryz.func120, Tryz.ntmps120
 go_wp2_with (go_at_call 138; refine (cl _ rfl).mono ?_; rintro e w' ⟨rfl, rfl⟩)
 clear cl
 go_loopw [11] (fun v wr => ∃ j : Nat, j ≤ n ∧ v = .int .i64 j ∧ RowT wr w.heap.size N (eithN N (rowsOf (ds.take j)) [] 0) ∧ Below w.heap.size w wr) (fun v _ => n - (intOf v).toNat)
 case atStart => exact ⟨0, by omega, rfl, HR.out, (Below.refl _ _).alloc (Nat.le_refl _) _⟩
 case round =>
  obtain ⟨j, hj, rfl, hrow, hbel⟩ := hrel
  have HW : Hid (RowT wr w.heap.size N (eithN N (rowsOf (ds.take j)) [] 0)) := hrow
  clear hrow
  by_cases hlt : j < n
  ·
   have hlt' : (j : Int) < n := by omega
   obtain ⟨d, hd⟩ : ∃ d, Hid (ds[j]? = some d) := ⟨_, List.getElem?_eq_getElem (by rw [← HN.out]; exact hlt)⟩
   have hmem : Hid (d.2.2 ∈ rowsOf ds) := List.mem_of_getElem? (rowsOf_get hd.out)
   obtain ⟨hdB, b, o, rfl, hbl, hc0⟩ := HL.out.2.2 j d hd.out
   have hnx : Hid (rowsOf (ds.take (j + 1)) = rowsOf (ds.take j) ++ [d.2.2]) := take_rows hd.out
   have hxN := HX.out _ hmem.out
   clear hd hmem
   obtain ⟨da, dc, x⟩ := d
   simp only at hdB hc0 hnx hxN
   obtain ⟨k, hk⟩ : ∃ k, k = x.length := ⟨_, rfl⟩
   have HK : Hid (k = x.length) := hk
   have HD : Hid (IsB w da dc x) := hdB
   rw [← hk] at hc0 hxN
   clear hdB hk
   have hc := cell_below hbel hc0
   generalize rowsOf (ds.take j) = ls at HW hnx
   have HW0 : Hid (RowT wr w.heap.size N (eithN N ls x 0)) := by show RowT _ _ _ _; rw [eithN_start N ls x []]; exact HW.out
   go_wp2
   go_loopw [19] (fun v wq => ∃ t : Nat, t ≤ k ∧ v = .int .i64 t ∧ RowT wq w.heap.size N (eithN N ls x t) ∧ Below w.heap.size w wq) (fun v _ => k - (intOf v).toNat)
   case atStart => exact ⟨0, by omega, rfl, HW0.out, hbel⟩
   case round =>
    obtain ⟨t, ht, rfl, hrow, hbel2⟩ := hrel
    have HT : Hid (RowT wr w.heap.size N (eithN N ls x t)) := hrow
    clear hrow
    by_cases htl : t < k
    ·
     have htl' : (t : Int) < k := by omega
     have htN : t < N := by omega
     have htN' : (t : Int) < N := by omega
     obtain ⟨y, hy⟩ : ∃ y, Hid (anyB ls t = y) := ⟨_, rfl⟩
     have hyg : Hid ((eithN N ls x t)[t]? = some y) := by show _ = _; rw [eithN_get ls x t htN, hy.out]; simp
     obtain ⟨hcy, hfy⟩ := HT.out.cell hyg.out
     obtain ⟨q, hq⟩ : ∃ q, Hid (x[t]? = some q) := ⟨_, List.getElem?_eq_getElem (by rw [← HK.out]; exact htl)⟩
     have hset : Hid (RowT (wr.setCell ⟨w.heap.size, t, none⟩ (.bool (y || q))) w.heap.size N (eithN N ls x (t + 1))) := by
      show RowT _ _ _ _
      rw [← eithN_set ls x htN, hy.out, atB_some hq.out]
      exact HT.out.set t _
     obtain ⟨b2, o2, ha2, hbl2, hc20⟩ := HD.out.2.2 t q hq.out
     have hc2 := cell_below hbel2 hc20
     have hcr := cell_below hbel2 hc0
     rw [ha2] at hcr
     clear hq hy hyg HW0 HW
     cases y with
     | true =>
      rw [Bool.true_or] at hset
      go_wp2
      go_roundw
      case rel => exact ⟨t + 1, by omega, by go_num, hset.out, hbel2.setCell (p := ⟨w.heap.size, t, none⟩) (Nat.le_refl _) _⟩
      case measure => simp [intOf]; omega
     | false =>
      rw [Bool.false_or] at hset
      go_wp2
      go_roundw
      case rel => exact ⟨t + 1, by omega, by go_num, hset.out, hbel2.setCell (p := ⟨w.heap.size, t, none⟩) (Nat.le_refl _) _⟩
      case measure => simp [intOf]; omega
    ·
     obtain rfl : t = k := by omega
     have hfin : Hid (RowT wr w.heap.size N (eithN N (rowsOf (ds.take (j + 1))) [] 0)) := by
      show RowT _ _ _ _
      rw [hnx.out, ← eithN_next N ls x [] t HK.out]
      exact HT.out
     go_wp2
     go_roundw
     case rel => exact ⟨j + 1, by omega, by go_num, hfin.out, hbel2⟩
     case measure => simp [intOf]; omega
  ·
   obtain rfl : j = n := by omega
   have hR2 : Hid (RowT wr w.heap.size N (eithN N (rowsOf ds) [] 0)) := by have := HW.out; rw [take_all HN.out] at this; exact this
   go_wp2
   go_ret
   exact ⟨rfl, hR2.out, hbel⟩
theorem eithN_all (N : Nat) (ls : List (List Bool)) {i : Nat} (h : i < N) : (eithN N ls [] 0)[i]? = some (anyB ls i) := by
 rw [eithN_get ls [] 0 h]; simp
set_option maxHeartbeats 1000000 in
theorem first_any (fr : Int) (a : Option Addr) (c : Nat) (ds : List (Option Addr × Nat × List Bool)) (w : World) (hL : IsL w a c ds) (hb : ∀ l ∈ rowsOf ds, l.length ≤ 4096) :
  Calls Tryz.prog 97 #[.int .i64 fr, .slice a ds.length c] w fun e w' => e = .returned (.int .i64 (firstB fr (rowsOf ds))) ∧ Below w.heap.size w w' := by
 obtain ⟨n, hn⟩ : ∃ n, n = ds.length := ⟨_, rfl⟩
 obtain ⟨ls, hls⟩ : ∃ ls, ls = rowsOf ds := ⟨_, rfl⟩
 obtain ⟨N, hN⟩ : ∃ k, Hid (k = longest ls) := ⟨_, rfl⟩
 have hNb : N ≤ 4096 := by rw [hN.out, hls]; exact longest_bound hb
 have ce : ∀ W, w = W → Calls Tryz.prog 120 #[.slice a n c] W fun e w' => e = .returned (.slice (some ⟨w.heap.size, 0, none⟩) N N) ∧ RowT w' w.heap.size N (eithN N ls [] 0) ∧ Below w.heap.size w w' := by
  rintro W rfl; rw [hn, hN.out, hls]; exact either_any a c ds w hL hb
 rw [← hn, ← hls]
 clear hL hn hb hls
 go_enter Tryz.func97, Tryz.ntmps97
 go_wp2_with (go_at_call 120; refine (ce _ rfl).mono ?_; rintro e w1 ⟨rfl, hr, hb⟩; have HR : Hid (RowT w1 w.heap.size N (eithN N ls [] 0)) := hr; clear ce hr)
 go_loopw [11] (fun v wr => ∃ j : Nat, j ≤ N ∧ v = .int .i64 j ∧ (∀ i : Nat, fr ≤ i → i < j → howB ls i ≠ 0) ∧ w1 = wr) (fun v _ => N - (intOf v).toNat)
 case atStart => exact ⟨0, by omega, rfl, fun i _ hi => by omega, by trivial⟩
 case round =>
  obtain ⟨j, hj, rfl, hno, rfl⟩ := hrel
  have HNO : Hid (∀ i : Nat, fr ≤ i → i < j → howB ls i ≠ 0) := hno
  clear hno
  by_cases hlt : j < N
  ·
   have hlt' : (j : Int) < N := by omega
   obtain ⟨q, hq⟩ : ∃ q, Hid (anyB ls j = q) := ⟨_, rfl⟩
   obtain ⟨hc, -⟩ := HR.out.cell (eithN_all N ls hlt)
   rw [hq.out] at hc
   by_cases hf : fr ≤ j
   ·
    cases q with
    | false =>
     have he : Hid ((j : Int) = firstB fr ls) := (firstB_is hf (by rw [← hN.out]; exact hlt) (anyB_how.1 hq.out) HNO.out).symm
     go_wp2
     go_ret
     exact ⟨ret_int he.out, hb⟩
    | true =>
     have hnx : Hid (∀ i : Nat, fr ≤ i → i < j + 1 → howB ls i ≠ 0) := by
      intro i h1 h2
      by_cases e : i = j
      ·
       rw [e]; intro hh; rw [anyB_how.2 hh] at hq; cases hq.out
      ·
       exact HNO.out i h1 (by omega)
     go_wp2
     go_roundw
     case rel => exact ⟨j + 1, by omega, by go_num, hnx.out, by trivial⟩
     case measure => simp [intOf]; omega
   ·
    have hnx : Hid (∀ i : Nat, fr ≤ i → i < j + 1 → howB ls i ≠ 0) := by
     intro i h1 h2
     by_cases e : i = j
     ·
      rw [e] at h1; exact absurd h1 hf
     ·
      exact HNO.out i h1 (by omega)
    go_wp2
    go_roundw
    case rel => exact ⟨j + 1, by omega, by go_num, hnx.out, by trivial⟩
    case measure => simp [intOf]; omega
  ·
   obtain rfl : j = N := by omega
   have he : Hid ((-1 : Int) = firstB fr ls) := (firstB_none fun i h1 h2 => HNO.out i h1 (by rw [hN.out]; exact h2)).symm
   go_wp2
   go_ret
   exact ⟨ret_int he.out, hb⟩
def OwnT (base : Nat) (w : World) (a : Option Addr) (cap : Nat) (l : List Bool) : Prop :=
 (a = none ∧ cap = 0 ∧ l = []) ∨ ∃ g, a = some ⟨g, 0, none⟩ ∧ base ≤ g ∧ RowT w g cap l
theorem OwnT.isB {base : Nat} {w : World} {a : Option Addr} {cap : Nat} {l : List Bool} (h : OwnT base w a cap l) : IsB w a cap l := by
 rcases h with ⟨rfl, rfl, rfl⟩ | ⟨g, rfl, _, hr⟩
 ·
  exact IsB_nil _
 ·
  exact hr.isB
theorem OwnT.below {base : Nat} {w w' : World} {a : Option Addr} {cap : Nat} {l : List Bool} (h : OwnT base w a cap l) (hb : Below w.heap.size w w') : OwnT base w' a cap l := by
 rcases h with h | ⟨g, h1, h2, hr⟩
 ·
  exact .inl h
 ·
  exact .inr ⟨g, h1, h2, hr.below hb⟩
theorem OwnT.some {base : Nat} {w : World} {a : Option Addr} {cap : Nat} {l : List Bool} (h : OwnT base w a cap l) (hl : 0 < l.length) : ∃ g, a = some ⟨g, 0, none⟩ ∧ base ≤ g ∧ RowT w g cap l := by
 rcases h with ⟨_, _, rfl⟩ | h
 ·
  cases hl
 ·
  exact h
theorem isB_src {w : World} {ad : Addr} {c : Nat} {l : List Bool} (h : IsB w (some ad) c l) : ∀ j u, (l.map Value.bool)[j]? = some u → w.cell? (ad.add j) = some u := by
 intro j u hj
 rw [List.getElem?_map] at hj
 obtain ⟨x, hx, rfl⟩ := Option.map_eq_some_iff.1 hj
 obtain ⟨b', o', ha, _, hc⟩ := h.2.2 j x hx
 cases ha
 rw [at_add]
 exact hc
theorem run_append_none {w : World} (base : Nat) (t ty e : TypeId) (i : TypeInfo) (size m c : Nat) (hm : m = 0) (ht : Tryz.prog.underlying t = some (.slice e)) (hi : Tryz.prog.info? e = some i)
  (v : Value) (n : Nat) (xs : List Value) (hown : w.ownsRow base e size v n xs) :
  (Builtin.append_ #[t, t] ty #[v, .slice none m c]).run Tryz.prog w = .ok v w := by
 subst hm
 rcases hown.2 with ⟨rfl, rfl⟩ | ⟨g, cap, cur, rfl, _, _, hnc, _⟩
 ·
  simp [Builtin.append_, run_underlying ht, sizeOf, typeInfo, hi, Builtin.lenOf, Builtin.firstCells]
 ·
  simp [Builtin.append_, run_underlying ht, sizeOf, typeInfo, hi, Builtin.lenOf, Builtin.firstCells, hnc, storeCells]
theorem copyT (W : World) (a : Option Addr) (c n : Nat) (l : List Bool) (hn : n = l.length) (hB : IsB W a c l) (hz : n ≤ 140737488355328) (ty : TypeId) :
  ∃ g cap w', (Builtin.append_ #[22, 22] ty #[.slice (some ⟨W.heap.size, 0, none⟩) 0 0, .slice a n c]).run Tryz.prog (W.alloc (.cells #[] 4)) = .ok (.slice (some ⟨g, 0, none⟩) n cap) w' ∧ W.heap.size ≤ g ∧ RowT w' g cap l ∧ Below W.heap.size W w' := by
 subst hn
 obtain ⟨i0, hi, hz0, hz1, hz2⟩ := info_parts Tryz.info4
 have hown := World.ownsRow_made (base := W.heap.size) (e := 4) (size := 1) W #[] 0 (Nat.le_refl _) (Nat.zero_le _) rfl
 have hB0 := (Below.refl W.heap.size W).alloc (Nat.le_refl _) (.cells #[] 4)
 cases a with
 | none =>
  have h0 : l = [] := by
   rcases Nat.eq_zero_or_pos l.length with h | h
   ·
    exact List.length_eq_zero_iff.1 h
   ·
    obtain ⟨b, o, hh, _⟩ := hB.some h
    cases hh
  subst h0
  refine ⟨W.heap.size, 0, _, run_append_none W.heap.size _ ty _ i0 1 0 c rfl Tryz.underlying22 hi _ _ _ hown, Nat.le_refl _, ⟨#[], ?_, rfl, Nat.le_refl _, Nat.zero_le _, rfl⟩, hB0⟩
  exact heap_new W _
 | some ad =>
  obtain ⟨v', w', hr, h2, h3, h4⟩ := run_append_own (P := Tryz.prog) (W.alloc (.cells #[] 4)) W.heap.size 22 ty 4 i0 _ 1 1 Tryz.underlying22 hi hz0 hz1 hz2 rfl (by decide) _ 0 _ hown ad l.length c (l.map Value.bool) (by simp) (isB_src (hB.below hB0))
   (fun u hu => by obtain ⟨x, _, rfl⟩ := List.mem_map.1 hu; rfl) (by have := hB.1; have := hB.2.1; unfold maxLen at *; omega) (by omega) (by simp)
  rcases h2.2 with ⟨h, _⟩ | ⟨g, cap, cur, h, hg, hcur, hnc, hcm, hsz, htk⟩
  ·
   exact absurd (h4.1 h).1 (by simp)
  ·
   subst h
   refine ⟨g, cap, w', by rw [hr, Nat.zero_add], hg, ⟨cur, hcur, by simpa using htk, by omega, hcm, by omega⟩, hB0.grown h3 (by simp) (by intro k hk; simp [Value.ownBlock] at hk; omega)⟩
set_option maxHeartbeats 1000000 in
theorem clone_any (a : Option Addr) (c n : Nat) (l : List Bool) (w : World) (hn : n = l.length) (hB : IsB w a c l) (h2 : n ≤ 4096) :
  Calls Tryz.prog 51 #[.slice a n c] w fun e w' => ∃ a' cap, e = .returned (.slice a' n cap) ∧ OwnT w.heap.size w' a' cap l ∧ Below w.heap.size w w' := by
 have q : ∀ (w : World) (a : Option Addr) (n c n' c' : Nat), (binOp .eql 22 (.slice a n c) (.slice none n' c')).run Tryz.prog w = .ok (.bool a.isNone) w := fun w a n c n' c' => Lib.run_eql_slice_nil w _ _ a n c n' c' Tryz.underlying22
 cases a with
 | none =>
  have h0 : l = [] := by
   rcases Nat.eq_zero_or_pos l.length with h | h
   ·
    exact List.length_eq_zero_iff.1 h
   ·
    obtain ⟨b, o, hh, _⟩ := hB.some h
    cases hh
  subst h0
  obtain rfl : n = 0 := hn
  clear hB
  go_enter Tryz.func51, Tryz.ntmps51
  go_wp2
  go_ret
  exact ⟨none, 0, rfl, .inl ⟨rfl, rfl, rfl⟩, Below.refl _ _⟩
 | some ad =>
  obtain ⟨g, cap, w1, hrun, hg, hrow, hb⟩ := copyT w (some ad) c n l hn hB (by omega) 22
  have HR : Hid (RowT w1 g cap l) := hrow
  clear hrow hB hn
  go_enter Tryz.func51, Tryz.ntmps51
  go_wp2_with (at_builtin; refine Lib.wpList_append_run _ rfl _ _ _ _ rfl _ _ rfl rfl _ _ hrun ?_)
  go_ret
  exact ⟨some ⟨g, 0, none⟩, cap, rfl, .inr ⟨g, rfl, hg, HR.out⟩, hb⟩
theorem placesOk_take {l : List Bool} {ps : List Int} {j : Nat} {p : Int} (h : placesOk l (ps.take j) = true) (hp : ps[j]? = some p) (h0 : 0 ≤ p) (h1 : p < l.length) : placesOk l (ps.take (j + 1)) = true := by
 unfold placesOk at h ⊢
 rw [List.take_add_one, hp, List.all_append, h]
 simp [h0, h1]
theorem placesOk_bad {l : List Bool} {ps : List Int} {j : Nat} {p : Int} (hp : ps[j]? = some p) (h : p < 0 ∨ (l.length : Int) ≤ p) : placesOk l ps = false := by
 unfold placesOk
 rw [List.all_eq_false]
 refine ⟨p, List.mem_of_getElem? hp, ?_⟩
 simp
 omega
theorem setB_take (l : List Bool) (is : Bool) {ps : List Int} {j : Nat} {p : Int} (hp : ps[j]? = some p) : setB l is (ps.take (j + 1)) = (setB l is (ps.take j)).set p.toNat is := by
 rw [List.take_add_one, hp, setB_append]; rfl
theorem withE_bad {l : List Bool} {ps : List Int} (h : placesOk l ps = false) : withE l ps = 1 := by unfold withE; rw [h]; rfl
theorem withL_bad {l : List Bool} {is : Bool} {ps : List Int} (h : placesOk l ps = false) : withL l is ps = [] := by unfold withL; rw [h]; rfl
theorem withE_ok {l : List Bool} {ps : List Int} (h : placesOk l ps = true) : withE l ps = 0 := by unfold withE; rw [h]; rfl
theorem withL_ok {l : List Bool} {is : Bool} {ps : List Int} (h : placesOk l ps = true) : withL l is ps = setB l is ps := by unfold withL; rw [h]; rfl
set_option maxRecDepth 20000 in
set_option maxHeartbeats 1000000 in
theorem with_own (a ap : Option Addr) (c cp : Nat) (l : List Bool) (is : Bool) (ps : List Int) (w : World) (hB : IsB w a c l) (hI : IsI w ap cp ps) (hl : l.length ≤ 4096) :
  Calls Tryz.prog 98 #[.slice a l.length c, .bool is, .slice ap ps.length cp] w fun e w' => ∃ a' c', e = .returned (.tuple #[.slice a' (withL l is ps).length c', .int .i64 (withE l ps)]) ∧ OwnT w.heap.size w' a' c' (withL l is ps) ∧ Below w.heap.size w w' := by
 obtain ⟨n, hn⟩ : ∃ n, n = l.length := ⟨_, rfl⟩
 obtain ⟨k, hk⟩ : ∃ n, n = ps.length := ⟨_, rfl⟩
 have hkb : k ≤ 9223372036854775807 := by rw [hk]; exact Nat.le_trans hI.1 hI.2.1
 have hnb : n ≤ 4096 := by omega
 have HI : Hid (IsI w ap cp ps) := hI
 have HN : Hid (n = l.length) := hn
 have HK : Hid (k = ps.length) := hk
 have cc := clone_any a c n l w hn hB hnb
 rw [← hn, ← hk]
 clear hB hI hn hk hl
 go_enter Tryz.func98, Tryz.ntmps98
 go_wp2_with (go_at_call 51; refine cc.mono ?_; rintro e w1 ⟨a1, d1, rfl, ho, hb⟩; have HO : Hid (OwnT w.heap.size w1 a1 d1 l) := ho; clear ho cc)
 go_loopw [15] (fun v wr => ∃ j : Nat, j ≤ k ∧ v = .int .i64 j ∧ placesOk l (ps.take j) = true ∧ OwnT w.heap.size wr a1 d1 (setB l is (ps.take j)) ∧ Below w.heap.size w wr) (fun v _ => k - (intOf v).toNat)
 case atStart => exact ⟨0, by omega, rfl, rfl, HO.out, hb⟩
 case round =>
  obtain ⟨j, hj, rfl, hok, hown, hbel⟩ := hrel
  have HO1 : Hid (OwnT w.heap.size wr a1 d1 (setB l is (ps.take j))) := hown
  have HK1 : Hid (placesOk l (ps.take j) = true) := hok
  clear hown hok
  by_cases hlt : j < k
  ·
   have hlt' : (j : Int) < k := by omega
   obtain ⟨p, hp⟩ : ∃ p, Hid (ps[j]? = some p) := ⟨_, List.getElem?_eq_getElem (by rw [← HK.out]; exact hlt)⟩
   obtain ⟨b, o, rfl, hbl, hc0⟩ := HI.out.2.2 j p hp.out
   have hc := cell_below hbel hc0
   by_cases h0 : p < 0
   ·
    have hE : Hid (placesOk l ps = false) := placesOk_bad hp.out (.inl h0)
    go_wp2
    go_ret2
    exact ⟨none, 0, by rw [withE_bad hE.out, withL_bad hE.out]; rfl, by rw [withL_bad hE.out]; exact .inl ⟨rfl, rfl, rfl⟩, hbel⟩
   ·
    by_cases h1 : (n : Int) ≤ p
    ·
     have hE : Hid (placesOk l ps = false) := placesOk_bad hp.out (.inr (by rw [← HN.out]; exact h1))
     go_wp2
     go_ret2
     exact ⟨none, 0, by rw [withE_bad hE.out, withL_bad hE.out]; rfl, by rw [withL_bad hE.out]; exact .inl ⟨rfl, rfl, rfl⟩, hbel⟩
    ·
     obtain ⟨q, rfl⟩ : ∃ q : Nat, p = q := ⟨p.toNat, by omega⟩
     have hqn : q < n := by omega
     have hqn' : (q : Int) < n := by omega
     have hql : q < (setB l is (ps.take j)).length := by rw [setB_length, ← HN.out]; exact hqn
     obtain ⟨g, rfl, hg, hrow⟩ := HO1.out.some (by omega)
     obtain ⟨hcx, hfx⟩ := hrow.cell (List.getElem?_eq_getElem hql)
     generalize (setB l is (ps.take j))[q]'_ = x at hcx
     have hset : Hid (OwnT w.heap.size (wr.setCell ⟨g, q, none⟩ (.bool is)) (some ⟨g, 0, none⟩) d1 (setB l is (ps.take (j + 1)))) := by
      rw [setB_take l is hp.out]
      exact .inr ⟨g, rfl, hg, hrow.set q is⟩
     have hok2 : Hid (placesOk l (ps.take (j + 1)) = true) := placesOk_take HK1.out hp.out (by omega) (by rw [← HN.out]; exact hqn')
     clear hrow
     go_wp2
     go_roundw
     case rel => exact ⟨j + 1, by omega, by go_num, hok2.out, hset.out, hbel.setCell (p := ⟨g, q, none⟩) hg _⟩
     case measure => simp [intOf]; omega
  ·
   obtain rfl : j = k := by omega
   have hE : Hid (placesOk l ps = true) := by have := HK1.out; rw [HK.out, List.take_length] at this; exact this
   have hS : Hid (OwnT w.heap.size wr a1 d1 (setB l is ps)) := by have := HO1.out; rw [HK.out, List.take_length] at this; exact this
   go_wp2
   go_ret2
   exact ⟨a1, d1, by rw [withE_ok hE.out, withL_ok hE.out, setB_length, ← HN.out]; rfl, by rw [withL_ok hE.out]; exact hS.out, hbel⟩
theorem isL_two {W : World} {a b : Option Addr} {c d n m : Nat} {l k : List Bool} (hn : n = l.length) (hm : m = k.length) (h : IsB W a c l) (h' : IsB W b d k) : IsL (W.alloc (.cells #[.slice a n c, .slice b m d] 22)) (some ⟨W.heap.size, 0, none⟩) 2 [(a, c, l), (b, d, k)] := by
 subst hn hm
 have hB := (Below.refl W.heap.size W).alloc (Nat.le_refl _) (.cells #[.slice a l.length c, .slice b k.length d] 22)
 refine ⟨Nat.le_refl _, by unfold maxLen; omega, fun j x hd => ?_⟩
 match j, hd with
 | 0, hd =>
  simp at hd
  subst hd
  exact ⟨h.below hB, W.heap.size, 0, rfl, by simp, World.cell?_alloc_at _ _ _ _ rfl⟩
 | 1, hd =>
  simp at hd
  subst hd
  exact ⟨h'.below hB, W.heap.size, 0, rfl, by simp, World.cell?_alloc_at _ _ _ _ rfl⟩
theorem count_two (W : World) (b b' : Option Addr) (d d' n n' : Nat) (l l' : List Bool) (hn : n = l.length) (hn' : n' = l'.length) (h : IsB W b d l) (h' : IsB W b' d' l') :
  Calls Tryz.prog 62 #[.slice (some ⟨W.heap.size, 0, none⟩) 2 2] (W.alloc (.cells #[.slice b n d, .slice b' n' d'] 22)) fun e w' => e = .returned (.int .i64 (countB [l, l'])) ∧ Below W.heap.size W w' :=
 (count_any _ _ _ _ (isL_two hn hn' h h')).mono fun e w' ⟨he, hw⟩ => ⟨he, hw ▸ (Below.refl _ _).alloc (Nat.le_refl _) _⟩
theorem first_two (W : World) (fr : Int) (b b' : Option Addr) (d d' n n' : Nat) (l l' : List Bool) (hn : n = l.length) (hn' : n' = l'.length) (h : IsB W b d l) (h' : IsB W b' d' l') (hl : n ≤ 4096) (hl' : n' ≤ 4096) :
  Calls Tryz.prog 97 #[.int .i64 fr, .slice (some ⟨W.heap.size, 0, none⟩) 2 2] (W.alloc (.cells #[.slice b n d, .slice b' n' d'] 22)) fun e w' => e = .returned (.int .i64 (firstB fr [l, l'])) ∧ Below W.heap.size W w' :=
 (first_any fr _ _ _ _ (isL_two hn hn' h h') (fun x hx => by simp [rowsOf] at hx; rcases hx with rfl | rfl <;> omega)).mono fun e w' ⟨he, hw⟩ => ⟨he, Below.tr ((Below.refl _ _).alloc (Nat.le_refl _) _) hw⟩
theorem with_own_one (W : World) (a : Option Addr) (c n : Nat) (l : List Bool) (is : Bool) (t : Nat) (hn : n = l.length) (h : IsB W a c l) (hl : n ≤ 4096) (ht : t < n) :
  Calls Tryz.prog 98 #[.slice a n c, .bool is, .slice (some ⟨W.heap.size, 0, none⟩) 1 1] (W.alloc (.cells #[.int .i64 t] 3)) fun e w' => ∃ a' c', e = .returned (.tuple #[.slice a' n c', .int .i64 0]) ∧ OwnT W.heap.size w' a' c' (l.set t is) ∧ Below W.heap.size W w' := by
 subst hn
 have hB := (Below.refl W.heap.size W).alloc (Nat.le_refl _) (.cells #[.int .i64 (t : Int)] 3)
 have hok : placesOk l [(t : Int)] = true := by simp [placesOk]; exact ht
 have := with_own a (some ⟨W.heap.size, 0, none⟩) c 1 l is [(t : Int)] _ (h.below hB) (isI_one W t) hl
 rw [withE_ok hok, withL_ok hok] at this
 refine this.mono fun e w' ⟨a', c', he, hI, hb⟩ => ⟨a', c', ?_, ?_, Below.tr hB hb⟩
 ·
  rw [he, setB_length]
 ·
  rcases hI with h | ⟨g, h1, h2, h3⟩
  ·
   exact .inl h
  ·
   exact .inr ⟨g, h1, Nat.le_trans hB.size h2, h3⟩
end Go.Proofs.YtaecfbfcjaailaaGreat
namespace Go.Proofs.YtaecfbfcjaailaaGreat.Plain
open Go.RowKit
set_option linter.unusedVariables false
def rightA (b n : List Bool) : Bool := decide (b.length = n.length) && decide (24 ≤ n.length) && decide (n.length ≤ 2048) && (List.range 10).all fun i => atB b i && atB n i
theorem rightA_iff (b n : List Bool) : rightA b n = true ↔ b.length = n.length ∧ 24 ≤ n.length ∧ n.length ≤ 2048 ∧ ∀ i, i < 10 → atB b i = true ∧ atB n i = true := by
 unfold rightA
 simp only [Bool.and_eq_true, decide_eq_true_eq, List.all_eq_true, List.mem_range]
 constructor
 ·
  rintro ⟨⟨⟨h1, h2⟩, h3⟩, h4⟩; exact ⟨h1, h2, h3, h4⟩
 ·
  rintro ⟨h1, h2, h3, h4⟩; exact ⟨⟨⟨h1, h2⟩, h3⟩, h4⟩
def freeB (b n : List Bool) (i : Nat) : Bool := decide (i < n.length) && (!atB n i && !atB b i)
theorem freeB_iff (b n : List Bool) (i : Nat) : freeB b n i = true ↔ i < n.length ∧ atB n i = false ∧ atB b i = false := by
 unfold freeB
 simp
theorem freeB_how {b n : List Bool} {i : Nat} (hi : i < n.length) : freeB b n i = true ↔ howB [b, n] i = 0 := by
 rw [freeB_iff, howB_none]
 constructor
 ·
  rintro ⟨_, h1, h2⟩ l hl
  simp at hl
  rcases hl with rfl | rfl
  ·
   rw [h2]; simp
  ·
   rw [h1]; simp
 ·
  intro h
  exact ⟨hi, by simpa using h n (by simp), by simpa using h b (by simp)⟩
theorem free_ten {b n : List Bool} (h : rightA b n = true) {i : Nat} (hf : freeB b n i = true) : 10 ≤ i := by
 refine Nat.le_of_not_lt fun hl => ?_
 have := (((rightA_iff b n).1 h).2.2.2 i hl).2
 rw [((freeB_iff b n i).1 hf).2.1] at this
 cases this
def howN (f : Nat → Bool) : Nat → Nat
 | 0 => 0
 | k + 1 => howN f k + bn (f k)
theorem howN_congr {f g : Nat → Bool} {k : Nat} (h : ∀ i, i < k → f i = g i) : howN f k = howN g k := by
 induction k with
 | zero => rfl
 | succ k ih => rw [howN, howN, ih fun i hi => h i (by omega), h k (by omega)]
theorem howN_zero {f : Nat → Bool} {k : Nat} : howN f k = 0 ↔ ∀ i, i < k → f i = false := by
 induction k with
 | zero => exact ⟨fun _ i hi => by omega, fun _ => rfl⟩
 | succ k ih =>
  rw [howN]
  constructor
  ·
   intro h i hi
   by_cases e : i = k
   ·
    subst e
    cases hf : f i with
    | false => rfl
    | true => rw [hf] at h; simp [bn] at h
   ·
    exact ih.1 (by omega) i (by omega)
  ·
   intro h
   rw [ih.2 fun i hi => h i (by omega), h k (by omega)]; rfl
theorem howN_one {f g : Nat → Bool} {k p : Nat} (hp : p < k) (hf : f p = true) (hg : g p = false) (h : ∀ i, i < k → i ≠ p → f i = g i) : howN f k = howN g k + 1 := by
 induction k with
 | zero => omega
 | succ k ih =>
  rw [howN, howN]
  by_cases e : p = k
  ·
   subst e
   rw [hf, hg, howN_congr fun i hi => h i (by omega) (by omega)]
   simp [bn]
  ·
   rw [ih (by omega) fun i hi hn => h i (by omega) hn, h k (by omega) (fun hh => e hh.symm)]
   omega
theorem howN_or {f g h : Nat → Bool} {k : Nat} (hh : ∀ i, i < k → h i = (f i || g i) ∧ ¬ (f i = true ∧ g i = true)) : howN h k = howN f k + howN g k := by
 induction k with
 | zero => rfl
 | succ k ih =>
  rw [howN, howN, howN, ih fun i hi => hh i (by omega), (hh k (by omega)).1]
  have := (hh k (by omega)).2
  cases hf : f k <;> cases hg : g k <;> simp_all [bn] <;> omega
theorem howN_all {f : Nat → Bool} {k : Nat} (h : ∀ i, i < k → f i = true) : howN f k = k := by
 induction k with
 | zero => rfl
 | succ k ih => rw [howN, ih fun i hi => h i (by omega), h k (by omega)]; rfl
def freshL (k : Nat) : List Bool := (List.range k).map fun i => decide (i < 10)
theorem freshL_length (k : Nat) : (freshL k).length = k := by simp [freshL]
theorem freshL_succ (k : Nat) : freshL (k + 1) = freshL k ++ [decide (k < 10)] := by unfold freshL; rw [List.range_succ, List.map_append]; rfl
def takeP (b n : List Bool) : Int := firstB 0 [b, n]
def takeE (b n : List Bool) : Int := if rightA b n = true then (if takeP b n = -1 then 60 else 0) else 1
def takeK (b n : List Bool) : Int := if takeE b n = 0 then takeP b n else 0
def takeB (b n : List Bool) : List Bool := if takeE b n = 0 then b else []
def takeNow (b n : List Bool) : List Bool := if takeE b n = 0 then n.set (takeP b n).toNat true else []
theorem takeP_spec {b n : List Bool} (h : b.length = n.length) :
  (takeP b n = -1 ∧ ∀ i, i < n.length → freeB b n i = false) ∨ ∃ p : Nat, takeP b n = p ∧ p < n.length ∧ freeB b n p = true ∧ ∀ i, i < p → freeB b n i = false := by
 have hL : longest [b, n] = n.length := by simp [longest]; omega
 have hno : ∀ i, i < n.length → howB [b, n] i ≠ 0 → freeB b n i = false := by
  intro i hi hh
  cases hf : freeB b n i with
  | false => rfl
  | true => exact absurd ((freeB_how hi).1 hf) hh
 unfold takeP
 rcases firstB_spec 0 [b, n] with ⟨e, hn⟩ | ⟨p, e, h1, h2, h3, h4⟩
 ·
  exact .inl ⟨e, fun i hi => hno i hi (hn i (by omega) (by omega))⟩
 ·
  refine .inr ⟨p, e, by omega, (freeB_how (by omega)).2 h3, fun i hi => hno i (by omega) (h4 i (by omega) hi)⟩
theorem atB_setB (l : List Bool) (p i : Nat) (x : Bool) : atB (l.set p x) i = if p = i ∧ i < l.length then x else atB l i := by
 unfold atB
 rw [List.getElem?_set]
 by_cases e : p = i
 ·
  subst e
  by_cases hl : p < l.length
  ·
   rw [if_pos rfl, if_pos hl, if_pos ⟨rfl, hl⟩]; rfl
  ·
   rw [if_pos rfl, if_neg hl, if_neg (fun h => hl h.2), List.getElem?_eq_none (by omega)]
 ·
  rw [if_neg e, if_neg (fun h => e h.1)]
theorem right_set {b n : List Bool} (h : rightA b n = true) {p : Nat} (hp : 10 ≤ p) (x : Bool) : rightA b (n.set p x) = true := by
 rw [rightA_iff] at h ⊢
 rw [List.length_set]
 refine ⟨h.1, h.2.1, h.2.2.1, fun i hi => ⟨(h.2.2.2 i hi).1, ?_⟩⟩
 rw [atB_setB, if_neg (fun hh => by omega)]
 exact (h.2.2.2 i hi).2
theorem free_taken {b n : List Bool} {p : Nat} (hp : freeB b n p = true) : freeB b (n.set p true) p = false ∧ (∀ i, i ≠ p → freeB b (n.set p true) i = freeB b n i) ∧ howN (freeB b n) n.length = howN (freeB b (n.set p true)) n.length + 1 := by
 have hl := ((freeB_iff b n p).1 hp).1
 have h1 : freeB b (n.set p true) p = false := by
  unfold freeB
  rw [atB_setB, if_pos ⟨rfl, hl⟩]; simp
 have h2 : ∀ i, i ≠ p → freeB b (n.set p true) i = freeB b n i := by
  intro i hi
  unfold freeB
  rw [List.length_set, atB_setB, if_neg (fun h => hi h.1.symm)]
 exact ⟨h1, h2, howN_one hl hp h1 fun i _ hn => (h2 i hn).symm⟩
def giveR (n : List Bool) : List Int → Option (List Bool)
 | [] => some n
 | x :: xs => if 10 ≤ x ∧ x < n.length ∧ atB n x.toNat = true then giveR (n.set x.toNat false) xs else none
theorem giveR_append (n : List Bool) (xs ys : List Int) : giveR n (xs ++ ys) = (giveR n xs).bind fun m => giveR m ys := by
 induction xs generalizing n with
 | nil => rfl
 | cons x xs ih =>
  rw [List.cons_append, giveR, giveR]
  split
  ·
   exact ih _
  ·
   rfl
theorem giveR_length {n m : List Bool} {xs : List Int} (h : giveR n xs = some m) : m.length = n.length := by
 induction xs generalizing n with
 | nil => cases h; rfl
 | cons x xs ih =>
  rw [giveR] at h
  split at h
  ·
   rw [ih h, List.length_set]
  ·
   cases h
theorem giveR_take {n m : List Bool} {xs : List Int} {j : Nat} {x : Int} (h : giveR n (xs.take j) = some m) (hx : xs[j]? = some x) :
  giveR n (xs.take (j + 1)) = if 10 ≤ x ∧ x < m.length ∧ atB m x.toNat = true then some (m.set x.toNat false) else none := by
 rw [List.take_add_one, hx, giveR_append, h]
 show giveR m [x] = _
 rw [giveR]
 split <;> rfl
theorem giveR_stop {n : List Bool} {xs : List Int} {j : Nat} (h : giveR n (xs.take j) = none) : giveR n xs = none := by
 rw [← List.take_append_drop j xs, giveR_append, h]; rfl
def giveE (b n : List Bool) (xs : List Int) : Int := if rightA b n = true then (if (giveR n xs).isSome = true then 0 else 30) else 1
def giveB (b n : List Bool) (xs : List Int) : List Bool := if giveE b n xs = 0 then b else []
def giveN (b n : List Bool) (xs : List Int) : List Bool := if giveE b n xs = 0 then (giveR n xs).getD [] else []
end Go.Proofs.YtaecfbfcjaailaaGreat.Plain
namespace Go.Proofs.YtaecfbfcjaailaaGreat
open Go.RowKit Plain Go.ChangeShapes Go.WideShapes
set_option linter.unusedVariables false
def Box2 (w : World) (h : Nat) (v0 v1 : Value) : Prop :=
 (w.cell? ⟨h, 0, none⟩ = some v0 ∧ w.cell? ⟨h, 1, none⟩ = some v1) ∧ w.frozen? ⟨h, 0, none⟩ = false ∧ w.frozen? ⟨h, 1, none⟩ = false
theorem box2_new (w : World) (v0 v1 : Value) (t : TypeId) {h : Nat} (hh : h = w.heap.size) : Box2 (w.alloc (.cells #[v0, v1] t)) h v0 v1 := by
 subst hh
 refine ⟨⟨World.cell?_alloc_at _ _ _ _ rfl, World.cell?_alloc_at _ _ _ _ rfl⟩, ?_, ?_⟩
 ·
  exact (World.frozen?_alloc_mark w _ _ _ _ 0).trans (by simp)
 ·
  exact (World.frozen?_alloc_mark w _ _ _ _ 1).trans (by simp)
theorem Box2.lt {w : World} {h : Nat} {v0 v1 : Value} (b : Box2 w h v0 v1) : h < w.heap.size := cell_lt b.1.1
theorem Box2.below {w w' : World} {h : Nat} {v0 v1 : Value} (b : Box2 w h v0 v1) (hb : Below w.heap.size w w') : Box2 w' h v0 v1 := by
 have hl := b.lt
 obtain ⟨⟨c0, c1⟩, f0, f1⟩ := b
 exact ⟨⟨cell_below hb c0, cell_below hb c1⟩, by rw [hb.frozen (p := ⟨h, 0, none⟩) hl]; exact f0, by rw [hb.frozen (p := ⟨h, 1, none⟩) hl]; exact f1⟩
theorem Box2.alloc {w : World} {h : Nat} {v0 v1 : Value} (b : Box2 w h v0 v1) (o : Obj) : Box2 (w.alloc o) h v0 v1 := b.below ((Below.refl _ _).alloc (Nat.le_refl _) o)
theorem Box2.drew {w : World} {h : Nat} {v0 v1 : Value} (b : Box2 w h v0 v1) : Box2 w.drew h v0 v1 := b.below (Below.refl _ _).drew
theorem Box2.set {w : World} {h : Nat} {v0 v1 : Value} (b : Box2 w h v0 v1) (u0 u1 : Value) : Box2 ((w.setCell ⟨h, 0, none⟩ u0).setCell ⟨h, 1, none⟩ u1) h u0 u1 := by
 obtain ⟨⟨c0, c1⟩, f0, f1⟩ := b
 refine ⟨⟨?_, ?_⟩, ?_, ?_⟩
 ·
  rw [World.cell?_setCell_other _ _ _ _ (fun hh => by cases hh)]
  exact World.cell?_setCell_same _ _ _ c0
 ·
  refine World.cell?_setCell_same _ _ _ (u := v1) ?_
  rw [World.cell?_setCell_other _ _ _ _ (fun hh => by cases hh)]
  exact c1
 ·
  simpa using f0
 ·
  simpa using f1
theorem below_set2 {w w1 : World} {h : Nat} {v0 v1 : Value} (hB : Below w.heap.size w w1) (hh : w.heap.size ≤ h) : Below w.heap.size w ((w1.setCell ⟨h, 0, none⟩ v0).setCell ⟨h, 1, none⟩ v1) :=
 (hB.setCell (p := ⟨h, 0, none⟩) hh _).setCell (p := ⟨h, 1, none⟩) hh _
theorem Box2.other {w : World} {h k : Nat} {v0 v1 : Value} (b : Box2 w h v0 v1) (hn : h ≠ k) (u0 u1 : Value) : Box2 ((w.setCell ⟨k, 0, none⟩ u0).setCell ⟨k, 1, none⟩ u1) h v0 v1 := by
 obtain ⟨⟨c0, c1⟩, f0, f1⟩ := b
 refine ⟨⟨?_, ?_⟩, ?_, ?_⟩
 ·
  rw [World.cell?_setCell_other _ _ _ _ (fun hh => hn (congrArg Addr.block hh).symm), World.cell?_setCell_other _ _ _ _ (fun hh => hn (congrArg Addr.block hh).symm)]; exact c0
 ·
  rw [World.cell?_setCell_other _ _ _ _ (fun hh => hn (congrArg Addr.block hh).symm), World.cell?_setCell_other _ _ _ _ (fun hh => hn (congrArg Addr.block hh).symm)]; exact c1
 ·
  simpa using f0
 ·
  simpa using f1
theorem OwnT.store {base : Nat} {w : World} {a : Option Addr} {cap : Nat} {l : List Bool} (h : OwnT base w a cap l) {k : Nat} (hk : k < base) (i : Nat) (v : Value) : OwnT base (w.setCell ⟨k, i, none⟩ v) a cap l := by
 rcases h with h | ⟨g, h1, h2, cur, hg, hr⟩
 ·
  exact .inl h
 ·
  exact .inr ⟨g, h1, h2, cur, by rw [Below.heap_setCell _ _ _ _ (show g ≠ k by omega)]; exact hg, hr⟩
theorem OwnT.mono {base base' : Nat} {w : World} {a : Option Addr} {cap : Nat} {l : List Bool} (h : OwnT base w a cap l) (hb : base' ≤ base) : OwnT base' w a cap l := by
 rcases h with h | ⟨g, h1, h2, hr⟩
 ·
  exact .inl h
 ·
  exact .inr ⟨g, h1, Nat.le_trans hb h2, hr⟩
theorem OwnT_nil (base : Nat) (w : World) : OwnT base w none 0 [] := .inl ⟨rfl, rfl, rfl⟩
end Go.Proofs.YtaecfbfcjaailaaGreat
namespace Go.Proofs.YtaecfbfcjaailaaGreat
set_option linter.unusedVariables false
theorem op_at {ops : Array Oper} {i : Nat} {o : Oper} {post : List Oper} (hd : ops.toList.drop i = o :: post) : ops[i]? = some o := by
 have h := List.getElem?_drop (xs := ops.toList) (i := i) (j := 0)
 rw [hd] at h
 simpa using h.symm
theorem take_at {P : Program} {ops : Array Oper} {Q : Exit → Act → World → Prop} {md : Region.Mode} {S : World → Prop} {i : Nat} {o : Oper} {post : List Oper} {v : Value} {fuel : Nat} {listed : Array Bool} {a : Act} {w : World}
  (hd : ops.toList.drop i = o :: post) (hs : Region.noSelect ops = true) (hf : Region.free md ops listed i = true) (hr : (Region.ready md ops listed).contains i = true)
  (hQ : ∀ c a w, Q (.panic c) (a.put o.dst v) w → Q (.panic c) a w) (hy : YieldsIf P ops S o v a) (hS : S w)
  (h : wpAnyH P md ops Q S fuel (listed.setIfInBounds i true) (a.put o.dst v) w) : wpAnyH P md ops Q S (fuel + 1) listed a w :=
 wpAnyH_take (op_at hd) hs hf hr hQ hy hS h
theorem cons_at {P : Program} {ops : Array Oper} {Q : Exit → Act → World → Prop} {md : Region.Mode} {S : World → Prop} {fuel : Nat} {listed : Array Bool} {a : Act} {w : World} {i : Nat} {o : Oper} {post : List Oper} {rs : List Nat}
  (hd : ops.toList.drop i = o :: post)
  (h : ∀ K' : Act → World → Prop, Shut (∀ a w, S w → (S w → wpAnyH P md ops Q S fuel (listed.setIfInBounds i true) a w) → K' a w) → if Region.wanted o (yielded ops a.tmps) = true then Oper.wp P o a w K' Q else K' (a.put o.dst undef) w)
  (hs : AllReadyH P md ops Q S fuel listed a w rs) : AllReadyH P md ops Q S fuel listed a w (i :: rs) :=
 AllReadyH.cons (op_at hd) h hs
end Go.Proofs.YtaecfbfcjaailaaGreat
namespace Go.Proofs.YtaecfbfcjaailaaGreat
open Go.RowKit Plain
set_option linter.unusedVariables false
def mayB (k : Int) : Bool := decide (24 ≤ k) && decide (k ≤ 2048)
theorem mayHave_any (k : Int) (w : World) : Calls Tryz.prog 61 #[.int .i64 k] w fun e w' => e = .returned (.bool (mayB k)) ∧ w = w' := by
 by_cases h1 : 24 ≤ k
 ·
  by_cases h2 : k ≤ 2048
  ·
   have e : Hid (mayB k = true) := by show _ = _; unfold mayB; rw [decide_eq_true h1, decide_eq_true h2]; rfl
   go_enter Tryz.func61, Tryz.ntmps61
   go_wp2
   go_ret
   exact ⟨ret_bool e.out.symm, rfl⟩
  ·
   have e : Hid (mayB k = false) := by show _ = _; unfold mayB; rw [decide_eq_true h1, decide_eq_false h2]; rfl
   go_enter Tryz.func61, Tryz.ntmps61
   go_wp2
   go_ret
   exact ⟨ret_bool e.out.symm, rfl⟩
 ·
  have e : Hid (mayB k = false) := by show _ = _; unfold mayB; rw [decide_eq_false h1]; rfl
  go_enter Tryz.func61, Tryz.ntmps61
  go_wp2
  go_ret
  exact ⟨ret_bool e.out.symm, rfl⟩
theorem right_lens {b m : List Bool} (h : b.length ≠ m.length) : rightA b m = false := by
 rw [Bool.eq_false_iff]; exact fun hr => h ((rightA_iff b m).1 hr).1
theorem right_may {b m : List Bool} (h : mayB m.length = false) : rightA b m = false := by
 rw [Bool.eq_false_iff]
 intro hr
 obtain ⟨_, h1, h2, _⟩ := (rightA_iff b m).1 hr
 unfold mayB at h
 rw [decide_eq_true (by omega), decide_eq_true (by omega)] at h
 cases h
theorem atB_take10 (l : List Bool) {i : Nat} (h : i < 10) : atB (l.take 10) i = atB l i := by
 unfold atB; rw [List.getElem?_take_of_lt h]
theorem right_ten {b m : List Bool} (h : b.length = m.length) (hm : mayB m.length = true) : rightA b m = ((countB [b.take 10, m.take 10] : Int) == 10) := by
 unfold mayB at hm
 simp at hm
 have hl : longest [b.take 10, m.take 10] = 10 := by simp [longest]; omega
 have hc : countB [b.take 10, m.take 10] = howN (allB [b.take 10, m.take 10]) 10 := by
  unfold countB
  rw [hl]
  generalize [b.take 10, m.take 10] = ls
  generalize 10 = k
  induction k with
  | zero => rfl
  | succ k ih => rw [countN_succ, howN, ih]
 have hall : ∀ i, i < 10 → (allB [b.take 10, m.take 10] i = true ↔ atB b i = true ∧ atB m i = true) := by
  intro i hi
  unfold allB
  rw [decide_eq_true_eq, howB_all]
  rw [← atB_take10 b hi, ← atB_take10 m hi]
  simp
 rw [Bool.eq_iff_iff, rightA_iff, beq_iff_eq, hc]
 constructor
 ·
  rintro ⟨_, _, _, h4⟩
  rw [howN_all fun i hi => (hall i hi).2 (h4 i hi)]; rfl
 ·
  intro h10
  refine ⟨h, by omega, by omega, fun i hi => (hall i hi).1 ?_⟩
  cases hf : allB [b.take 10, m.take 10] i with
  | true => rfl
  | false =>
   have h2 : howN (fun j => !allB [b.take 10, m.take 10] j) 10 + howN (allB [b.take 10, m.take 10]) 10 = 10 := by
    have := howN_or (f := fun j => !allB [b.take 10, m.take 10] j) (g := allB [b.take 10, m.take 10]) (h := fun _ => true) (k := 10) (fun j _ => by cases allB [b.take 10, m.take 10] j <;> simp)
    rw [← this, howN_all fun _ _ => rfl]
   have h3 : howN (fun j => !allB [b.take 10, m.take 10] j) 10 = 0 := by omega
   have := howN_zero.1 h3 i hi
   rw [hf] at this
   cases this
set_option maxRecDepth 20000 in
set_option maxHeartbeats 2000000 in
theorem allocRight_any (a a' : Option Addr) (c c' n n' : Nat) (b m : List Bool) (w : World) (hn : n = b.length) (hn' : n' = m.length) (hB : IsB w a c b) (hB' : IsB w a' c' m) :
  Calls Tryz.prog 43 #[.agg #[.slice a n c, .slice a' n' c']] w fun e w' => e = .returned (.bool (rightA b m)) ∧ Below w.heap.size w w' := by
 have hnb : n ≤ 9223372036854775807 := by rw [hn]; exact Nat.le_trans hB.1 hB.2.1
 have hnb' : n' ≤ 9223372036854775807 := by rw [hn']; exact Nat.le_trans hB'.1 hB'.2.1
 have hB0 : Below w.heap.size w (w.alloc (.cells #[.slice a n c, .slice a' n' c'] 24)) := (Below.refl _ _).alloc (Nat.le_refl _) _
 obtain ⟨⟨q0, q1⟩, -⟩ := box2_new w (.slice a n c) (.slice a' n' c') 24 rfl
 by_cases hl : n = n'
 ·
  subst hl
  cases hm : mayB n with
  | false =>
   have he : Hid (rightA b m = false) := right_may (by rw [← hn']; exact hm)
   clear hn hn' hB hB'
   go_enter Tryz.func43, Tryz.ntmps43
   go_wp2
   generalize w.alloc (.cells #[.slice a n c, .slice a' n c'] 24) = W at q0 q1 hB0 ⊢
   refine wp_region_noPanic ?_
   refine wp_region_held_drew (S := fun V => V.cell? ⟨w.heap.size, 0, none⟩ = some (.slice a n c) ∧ V.cell? ⟨w.heap.size, 1, none⟩ = some (.slice a' n c')) (by kernel_rfl) ⟨q0, q1⟩ (fun hHeld => ?_)
   refine take_at (i := 0) (v := ?_) rfl (by kernel_rfl) (by kernel_rfl) (by kernel_rfl) (fun _ _ _ h => h) (Or.inl ⟨by rfl, ?_⟩) (by assumption) ?_
   rotate_left 1
   ·
    (intro w hSw; (try dsimp only at hSw); go_simp; (try with_reducible rfl))
   try go_frame
   refine take_at (i := 1) (v := ?_) rfl (by kernel_rfl) (by kernel_rfl) (by kernel_rfl) (fun _ _ _ h => h) (Or.inl ⟨by rfl, ?_⟩) (by assumption) ?_
   rotate_left 1
   ·
    (intro w hSw; (try dsimp only at hSw); go_simp; (try with_reducible rfl))
   try go_frame
   refine take_at (i := 2) (v := ?_) rfl (by kernel_rfl) (by kernel_rfl) (by kernel_rfl) (fun _ _ _ h => h) (Or.inl ⟨by rfl, ?_⟩) (by assumption) ?_
   rotate_left 1
   ·
    (intro w hSw; (try dsimp only at hSw); go_simp; (try with_reducible rfl))
   try go_frame
   refine take_at (i := 3) (v := ?_) rfl (by kernel_rfl) (by kernel_rfl) (by kernel_rfl) (fun _ _ _ h => h) (Or.inl ⟨by rfl, ?_⟩) (by assumption) ?_
   rotate_left 1
   ·
    (intro w hSw; (try dsimp only at hSw); go_simp; (try with_reducible rfl))
   try go_frame
   refine take_at (i := 4) (v := ?_) rfl (by kernel_rfl) (by kernel_rfl) (by kernel_rfl) (fun _ _ _ h => h) (Or.inl ⟨by rfl, ?_⟩) (by assumption) ?_
   rotate_left 1
   ·
    (intro w hSw; (try dsimp only at hSw); go_simp; (try with_reducible rfl))
   try go_frame
   refine take_at (i := 5) (v := ?_) rfl (by kernel_rfl) (by kernel_rfl) (by kernel_rfl) (fun _ _ _ h => h) (Or.inl ⟨by rfl, ?_⟩) (by assumption) ?_
   rotate_left 1
   ·
    (intro w hSw; (try dsimp only at hSw); go_simp; (try with_reducible rfl))
   try go_frame
   refine take_at (i := 6) (v := ?_) rfl (by kernel_rfl) (by kernel_rfl) (by kernel_rfl) (fun _ _ _ h => h) (Or.inl ⟨by rfl, ?_⟩) (by assumption) ?_
   rotate_left 1
   ·
    (intro w hSw; (try dsimp only at hSw); go_simp; (try with_reducible rfl))
   try go_frame
   refine take_at (i := 7) (v := ?_) rfl (by kernel_rfl) (by kernel_rfl) (by kernel_rfl) (fun _ _ _ h => h) (Or.inl ⟨by rfl, ?_⟩) (by assumption) ?_
   rotate_left 1
   ·
    (intro w hSw; (try dsimp only at hSw); go_simp; (try with_reducible rfl))
   try go_frame
   refine take_at (i := 8) (v := ?_) rfl (by kernel_rfl) (by kernel_rfl) (by kernel_rfl) (fun _ _ _ h => h) (Or.inl ⟨by rfl, ?_⟩) (by assumption) ?_
   rotate_left 1
   ·
    (intro w hSw; (try dsimp only at hSw); go_simp; (try with_reducible rfl))
   try go_frame
   refine take_at (i := 9) (v := ?_) rfl (by kernel_rfl) (by kernel_rfl) (by kernel_rfl) (fun _ _ _ h => h) (Or.inl ⟨by rfl, ?_⟩) (by assumption) ?_
   rotate_left 1
   ·
    (intro w hSw; (try dsimp only at hSw); go_simp; (try with_reducible rfl))
   try go_frame
   refine take_at (i := 10) (v := ?_) rfl (by kernel_rfl) (by kernel_rfl) (by kernel_rfl) (fun _ _ _ h => h) (Or.inl ⟨by rfl, ?_⟩) (by assumption) ?_
   rotate_left 1
   ·
    (intro w hSw; (try dsimp only at hSw); go_simp; (try with_reducible rfl))
   try go_frame
   refine wpAnyH_ready (rs := [11]) (by kernel_rfl) (by simp) ?_
   refine cons_at (i := 11) rfl (fun K hK => ?_) AllReadyH.nil
   go_simp
   go_at_call 61
   refine (mayHave_any _ _).mono ?_
   rw [hm]
   rintro e w' ⟨rfl, rfl⟩
   refine hK.out _ _ ?_ (fun hHeld => ?_)
   ·
    assumption
   clear hK K
   refine take_at (i := 12) (v := ?_) rfl (by kernel_rfl) (by kernel_rfl) (by kernel_rfl) (fun _ _ _ h => h) (Or.inl ⟨by rfl, ?_⟩) (by assumption) ?_
   rotate_left 1
   ·
    (intro w hSw; (try dsimp only at hSw); go_simp; (try with_reducible rfl))
   try go_frame
   refine take_at (i := 13) (v := ?_) rfl (by kernel_rfl) (by kernel_rfl) (by kernel_rfl) (fun _ _ _ h => h) (Or.inl ⟨by rfl, ?_⟩) (by assumption) ?_
   rotate_left 1
   ·
    (intro w hSw; (try dsimp only at hSw); go_simp; (try with_reducible rfl))
   try go_frame
   refine take_at (i := 14) (v := undef) rfl (by kernel_rfl) (by kernel_rfl) (by kernel_rfl) (fun _ _ _ h => h) (Or.inr ⟨by rfl, rfl⟩) (by assumption) ?_
   try go_frame
   refine take_at (i := 15) (v := undef) rfl (by kernel_rfl) (by kernel_rfl) (by kernel_rfl) (fun _ _ _ h => h) (Or.inr ⟨by rfl, rfl⟩) (by assumption) ?_
   try go_frame
   refine take_at (i := 16) (v := undef) rfl (by kernel_rfl) (by kernel_rfl) (by kernel_rfl) (fun _ _ _ h => h) (Or.inr ⟨by rfl, rfl⟩) (by assumption) ?_
   try go_frame
   refine take_at (i := 17) (v := undef) rfl (by kernel_rfl) (by kernel_rfl) (by kernel_rfl) (fun _ _ _ h => h) (Or.inr ⟨by rfl, rfl⟩) (by assumption) ?_
   try go_frame
   refine take_at (i := 18) (v := undef) rfl (by kernel_rfl) (by kernel_rfl) (by kernel_rfl) (fun _ _ _ h => h) (Or.inr ⟨by rfl, rfl⟩) (by assumption) ?_
   try go_frame
   refine take_at (i := 19) (v := undef) rfl (by kernel_rfl) (by kernel_rfl) (by kernel_rfl) (fun _ _ _ h => h) (Or.inr ⟨by rfl, rfl⟩) (by assumption) ?_
   try go_frame
   refine take_at (i := 20) (v := undef) rfl (by kernel_rfl) (by kernel_rfl) (by kernel_rfl) (fun _ _ _ h => h) (Or.inr ⟨by rfl, rfl⟩) (by assumption) ?_
   try go_frame
   refine take_at (i := 21) (v := undef) rfl (by kernel_rfl) (by kernel_rfl) (by kernel_rfl) (fun _ _ _ h => h) (Or.inr ⟨by rfl, rfl⟩) (by assumption) ?_
   try go_frame
   refine take_at (i := 22) (v := undef) rfl (by kernel_rfl) (by kernel_rfl) (by kernel_rfl) (fun _ _ _ h => h) (Or.inr ⟨by rfl, rfl⟩) (by assumption) ?_
   try go_frame
   refine take_at (i := 23) (v := ?_) rfl (by kernel_rfl) (by kernel_rfl) (by kernel_rfl) (fun _ _ _ h => h) (Or.inl ⟨by rfl, ?_⟩) (by assumption) ?_
   rotate_left 1
   ·
    (intro w hSw; (try dsimp only at hSw); go_simp; (try with_reducible rfl))
   try go_frame
   refine take_at (i := 24) (v := ?_) rfl (by kernel_rfl) (by kernel_rfl) (by kernel_rfl) (fun _ _ _ h => h) (Or.inl ⟨by rfl, ?_⟩) (by assumption) ?_
   rotate_left 1
   ·
    (intro w hSw; (try dsimp only at hSw); go_simp; (try with_reducible rfl))
   try go_frame
   refine wpAnyH_done (by kernel_rfl) ?_ _
   refine NoPanic.normal ?_
   go_wp2
   go_ret
   exact ⟨ret_bool he.out.symm, hB0.drew⟩
  | true =>
   have he : Hid (rightA b m = ((countB [b.take 10, m.take 10] : Int) == 10)) := right_ten (by omega) (by rw [← hn']; exact hm)
   have hr : 24 ≤ n ∧ n ≤ 2048 := by unfold mayB at hm; simp at hm; omega
   have hc1 : n ≤ c := by rw [hn]; exact hB.1
   have hc2 : n ≤ c' := by rw [hn']; exact hB'.1
   obtain ⟨b1, o1, rfl, -⟩ := hB.some (by omega)
   obtain ⟨b2, o2, rfl, -⟩ := hB'.some (by omega)
   have hd1 : (10 : Int) ≤ c := by omega
   have hd2 : (10 : Int) ≤ c' := by omega
   obtain ⟨X, hX⟩ : ∃ X, Hid (X = countB [b.take 10, m.take 10]) := ⟨_, rfl⟩
   have cc : ∀ W, Below w.heap.size w W → Calls Tryz.prog 62 #[.slice (some ⟨W.heap.size, 0, none⟩) 2 2] (W.alloc (.cells #[.slice (some ⟨b1, o1, none⟩) 10 c, .slice (some ⟨b2, o2, none⟩) 10 c'] 22)) fun e w' => e = .returned (.int .i64 X) ∧ Below W.heap.size W w' := by
    intro W hW
    rw [hX.out]
    exact count_two W _ _ c c' 10 10 (b.take 10) (m.take 10) (by rw [List.length_take]; omega) (by rw [List.length_take]; omega) ((hB.take 10).below hW) ((hB'.take 10).below hW)
   rw [← hX.out] at he
   clear hn hn' hB hB' hX
   go_enter Tryz.func43, Tryz.ntmps43
   go_wp2
   generalize w.alloc (.cells #[.slice (some ⟨b1, o1, none⟩) n c, .slice (some ⟨b2, o2, none⟩) n c'] 24) = W at q0 q1 hB0 ⊢
   replace hB0 := hB0.drew
   go_region_held3 (fun V => V.cell? ⟨w.heap.size, 0, none⟩ = some (.slice (some ⟨b1, o1, none⟩) n c) ∧ V.cell? ⟨w.heap.size, 1, none⟩ = some (.slice (some ⟨b2, o2, none⟩) n c')) (first | exact ⟨q0, q1⟩ | exact ⟨cell_alloc q0 _, cell_alloc q1 _⟩) (first
    | (go_at_call 61; refine (mayHave_any _ _).mono ?_; rw [hm]; rintro e w' ⟨rfl, rfl⟩)
    | (go_at_call 62; refine (cc _ hB0).mono ?_; rintro e w' ⟨rfl, hb⟩; replace q0 := cell_below hb q0; replace q1 := cell_below hb q1; replace hB0 := Below.tr hB0 hb; clear hb))
   go_wp2
   go_ret
   exact ⟨ret_bool he.out.symm, hB0⟩
 ·
  have he : Hid (rightA b m = false) := right_lens (by omega)
  have hl' : ((n : Int) == n') = false := by rw [beq_eq_false_iff_ne]; omega
  clear hn hn' hB hB'
  go_enter Tryz.func43, Tryz.ntmps43
  go_wp2
  generalize w.alloc (.cells #[.slice a n c, .slice a' n' c'] 24) = W at q0 q1 hB0 ⊢
  refine wp_region_noPanic ?_
  refine wp_region_held_drew (S := fun V => V.cell? ⟨w.heap.size, 0, none⟩ = some (.slice a n c) ∧ V.cell? ⟨w.heap.size, 1, none⟩ = some (.slice a' n' c')) (by kernel_rfl) ⟨q0, q1⟩ (fun hHeld => ?_)
  refine take_at (i := 0) (v := ?_) rfl (by kernel_rfl) (by kernel_rfl) (by kernel_rfl) (fun _ _ _ h => h) (Or.inl ⟨by rfl, ?_⟩) (by assumption) ?_
  rotate_left 1
  ·
   (intro w hSw; (try dsimp only at hSw); go_simp; (try with_reducible rfl))
  try go_frame
  refine take_at (i := 1) (v := ?_) rfl (by kernel_rfl) (by kernel_rfl) (by kernel_rfl) (fun _ _ _ h => h) (Or.inl ⟨by rfl, ?_⟩) (by assumption) ?_
  rotate_left 1
  ·
   (intro w hSw; (try dsimp only at hSw); go_simp; (try with_reducible rfl))
  try go_frame
  refine take_at (i := 2) (v := ?_) rfl (by kernel_rfl) (by kernel_rfl) (by kernel_rfl) (fun _ _ _ h => h) (Or.inl ⟨by rfl, ?_⟩) (by assumption) ?_
  rotate_left 1
  ·
   (intro w hSw; (try dsimp only at hSw); go_simp; (try with_reducible rfl))
  try go_frame
  refine take_at (i := 3) (v := ?_) rfl (by kernel_rfl) (by kernel_rfl) (by kernel_rfl) (fun _ _ _ h => h) (Or.inl ⟨by rfl, ?_⟩) (by assumption) ?_
  rotate_left 1
  ·
   (intro w hSw; (try dsimp only at hSw); go_simp; (try with_reducible rfl))
  try go_frame
  refine take_at (i := 4) (v := ?_) rfl (by kernel_rfl) (by kernel_rfl) (by kernel_rfl) (fun _ _ _ h => h) (Or.inl ⟨by rfl, ?_⟩) (by assumption) ?_
  rotate_left 1
  ·
   (intro w hSw; (try dsimp only at hSw); go_simp; (try with_reducible rfl))
  try go_frame
  refine take_at (i := 5) (v := ?_) rfl (by kernel_rfl) (by kernel_rfl) (by kernel_rfl) (fun _ _ _ h => h) (Or.inl ⟨by rfl, ?_⟩) (by assumption) ?_
  rotate_left 1
  ·
   (intro w hSw; (try dsimp only at hSw); go_simp; (try with_reducible rfl))
  try go_frame
  refine take_at (i := 6) (v := ?_) rfl (by kernel_rfl) (by kernel_rfl) (by kernel_rfl) (fun _ _ _ h => h) (Or.inl ⟨by rfl, ?_⟩) (by assumption) ?_
  rotate_left 1
  ·
   (intro w hSw; (try dsimp only at hSw); go_simp; (try with_reducible rfl))
  try go_frame
  refine take_at (i := 7) (v := ?_) rfl (by kernel_rfl) (by kernel_rfl) (by kernel_rfl) (fun _ _ _ h => h) (Or.inl ⟨by rfl, ?_⟩) (by assumption) ?_
  rotate_left 1
  ·
   (intro w hSw; (try dsimp only at hSw); go_simp; (try with_reducible rfl))
  try go_frame
  refine take_at (i := 8) (v := undef) rfl (by kernel_rfl) (by kernel_rfl) (by kernel_rfl) (fun _ _ _ h => h) (Or.inr ⟨by rfl, rfl⟩) (by assumption) ?_
  try go_frame
  refine take_at (i := 9) (v := undef) rfl (by kernel_rfl) (by kernel_rfl) (by kernel_rfl) (fun _ _ _ h => h) (Or.inr ⟨by rfl, rfl⟩) (by assumption) ?_
  try go_frame
  refine take_at (i := 10) (v := undef) rfl (by kernel_rfl) (by kernel_rfl) (by kernel_rfl) (fun _ _ _ h => h) (Or.inr ⟨by rfl, rfl⟩) (by assumption) ?_
  try go_frame
  refine take_at (i := 11) (v := undef) rfl (by kernel_rfl) (by kernel_rfl) (by kernel_rfl) (fun _ _ _ h => h) (Or.inr ⟨by rfl, rfl⟩) (by assumption) ?_
  try go_frame
  refine take_at (i := 12) (v := ?_) rfl (by kernel_rfl) (by kernel_rfl) (by kernel_rfl) (fun _ _ _ h => h) (Or.inl ⟨by rfl, ?_⟩) (by assumption) ?_
  rotate_left 1
  ·
   (intro w hSw; (try dsimp only at hSw); go_simp; (try with_reducible rfl))
  try go_frame
  refine take_at (i := 13) (v := ?_) rfl (by kernel_rfl) (by kernel_rfl) (by kernel_rfl) (fun _ _ _ h => h) (Or.inl ⟨by rfl, ?_⟩) (by assumption) ?_
  rotate_left 1
  ·
   (intro w hSw; (try dsimp only at hSw); go_simp; (try with_reducible rfl))
  try go_frame
  refine take_at (i := 14) (v := undef) rfl (by kernel_rfl) (by kernel_rfl) (by kernel_rfl) (fun _ _ _ h => h) (Or.inr ⟨by rfl, rfl⟩) (by assumption) ?_
  try go_frame
  refine take_at (i := 15) (v := undef) rfl (by kernel_rfl) (by kernel_rfl) (by kernel_rfl) (fun _ _ _ h => h) (Or.inr ⟨by rfl, rfl⟩) (by assumption) ?_
  try go_frame
  refine take_at (i := 16) (v := undef) rfl (by kernel_rfl) (by kernel_rfl) (by kernel_rfl) (fun _ _ _ h => h) (Or.inr ⟨by rfl, rfl⟩) (by assumption) ?_
  try go_frame
  refine take_at (i := 17) (v := undef) rfl (by kernel_rfl) (by kernel_rfl) (by kernel_rfl) (fun _ _ _ h => h) (Or.inr ⟨by rfl, rfl⟩) (by assumption) ?_
  try go_frame
  refine take_at (i := 18) (v := undef) rfl (by kernel_rfl) (by kernel_rfl) (by kernel_rfl) (fun _ _ _ h => h) (Or.inr ⟨by rfl, rfl⟩) (by assumption) ?_
  try go_frame
  refine take_at (i := 19) (v := undef) rfl (by kernel_rfl) (by kernel_rfl) (by kernel_rfl) (fun _ _ _ h => h) (Or.inr ⟨by rfl, rfl⟩) (by assumption) ?_
  try go_frame
  refine take_at (i := 20) (v := undef) rfl (by kernel_rfl) (by kernel_rfl) (by kernel_rfl) (fun _ _ _ h => h) (Or.inr ⟨by rfl, rfl⟩) (by assumption) ?_
  try go_frame
  refine take_at (i := 21) (v := undef) rfl (by kernel_rfl) (by kernel_rfl) (by kernel_rfl) (fun _ _ _ h => h) (Or.inr ⟨by rfl, rfl⟩) (by assumption) ?_
  try go_frame
  refine take_at (i := 22) (v := undef) rfl (by kernel_rfl) (by kernel_rfl) (by kernel_rfl) (fun _ _ _ h => h) (Or.inr ⟨by rfl, rfl⟩) (by assumption) ?_
  try go_frame
  refine take_at (i := 23) (v := ?_) rfl (by kernel_rfl) (by kernel_rfl) (by kernel_rfl) (fun _ _ _ h => h) (Or.inl ⟨by rfl, ?_⟩) (by assumption) ?_
  rotate_left 1
  ·
   (intro w hSw; (try dsimp only at hSw); go_simp; (try with_reducible rfl))
  try go_frame
  refine take_at (i := 24) (v := ?_) rfl (by kernel_rfl) (by kernel_rfl) (by kernel_rfl) (fun _ _ _ h => h) (Or.inl ⟨by rfl, ?_⟩) (by assumption) ?_
  rotate_left 1
  ·
   (intro w hSw; (try dsimp only at hSw); go_simp; (try with_reducible rfl))
  try go_frame
  refine wpAnyH_done (by kernel_rfl) ?_ _
  refine NoPanic.normal ?_
  go_wp2
  go_ret
  exact ⟨ret_bool he.out.symm, hB0.drew⟩
end Go.Proofs.YtaecfbfcjaailaaGreat
namespace Go.Proofs.YtaecfbfcjaailaaGreat.Anyorder
open Go
def fit (ops : Array Oper) (n : Nat) : Bool :=
 (List.range ops.size).all fun i => match ops[i]? with
  | none => true
  | some o => (o.after.toList.all fun e => decide (e.on < i)) &&
   match o.dst with
   | none => true
   | some d => decide (d < n) && (List.range ops.size).all fun j => match ops[j]? with
    | none => true
    | some oj => oj.dst != some d || j == i
theorem fit_spec {ops : Array Oper} {n : Nat} (h : fit ops n = true) {i : Nat} {o : Oper} (hi : ops[i]? = some o) :
  (∀ e ∈ o.after, e.on < i) ∧ ∀ d, o.dst = some d → d < n ∧ ∀ j oj, ops[j]? = some oj → oj.dst = some d → j = i := by
 have hlt : i < ops.size := (Array.getElem?_eq_some_iff.1 hi).1
 unfold fit at h
 rw [List.all_eq_true] at h
 have h1 := h i (List.mem_range.2 hlt)
 rw [hi] at h1
 simp only [Bool.and_eq_true, List.all_eq_true, decide_eq_true_eq] at h1
 obtain ⟨ha, hb⟩ := h1
 refine ⟨fun e he => ha e (Array.mem_toList_iff.2 he), fun d hd => ?_⟩
 rw [hd] at hb
 simp only [Bool.and_eq_true, List.all_eq_true, decide_eq_true_eq] at hb
 refine ⟨hb.1, fun j oj hj hdj => ?_⟩
 have hjlt : j < ops.size := (Array.getElem?_eq_some_iff.1 hj).1
 have h2 := hb.2 j (List.mem_range.2 hjlt)
 rw [hj] at h2
 simp only [hdj] at h2
 simpa using h2
def waits (o : Oper) (j : Nat) : Bool := o.after.toList.any fun e => Region.binds .any e && e.on == j
theorem waits_spec {o : Oper} {j : Nat} : waits o j = true ↔ ∃ e ∈ o.after, Region.binds .any e = true ∧ e.on = j := by
 unfold waits
 rw [List.any_eq_true]
 constructor
 ·
  rintro ⟨e, he, h⟩
  rw [Bool.and_eq_true, beq_iff_eq] at h
  exact ⟨e, Array.mem_toList_iff.1 he, h.1, h.2⟩
 ·
  rintro ⟨e, he, h1, h2⟩
  exact ⟨e, Array.mem_toList_iff.2 he, by rw [Bool.and_eq_true, beq_iff_eq]; exact ⟨h1, h2⟩⟩
def free (ops : Array Oper) (i d : Nat) : Bool :=
 (List.range ops.size).all fun j => match ops[j]? with
  | none => true
  | some oj => oj.dst != some d || j == i || waits oj i
theorem free_spec {ops : Array Oper} {i d : Nat} (h : free ops i d = true) {j : Nat} {oj : Oper} (hj : ops[j]? = some oj) (hd : oj.dst = some d) : j = i ∨ ∃ e ∈ oj.after, Region.binds .any e = true ∧ e.on = i := by
 unfold free at h
 rw [List.all_eq_true] at h
 have h1 := h j (List.mem_range.2 (Array.getElem?_eq_some_iff.1 hj).1)
 rw [hj] at h1
 simp only [hd] at h1
 rw [← waits_spec]
 simpa using h1
def Amid (ops : Array Oper) (a0 : Act) (V : Nat → Value → World → Prop) (S : World → Prop) (listed : Array Bool) (a : Act) (w : World) : Prop :=
 (S w) ∧
 (a.defers = a0.defers) ∧
 (a.tmps.size = a0.tmps.size) ∧
 (listed.size = ops.size) ∧
 (∀ (j : Nat) (oj : Oper), ops[j]? = some oj → listed.getD j false = true → ∀ e ∈ oj.after, Region.binds .any e = true → listed.getD e.on false = true) ∧
 (∀ d : Nat, (∀ (j : Nat) (oj : Oper), ops[j]? = some oj → oj.dst = some d → listed.getD j false = false) → a.tmps[d]? = a0.tmps[d]?) ∧
 (∀ (j : Nat) (oj : Oper) (d : Nat), ops[j]? = some oj → oj.dst = some d → listed.getD j false = true → ∃ v, a.tmps[d]? = some v ∧ V j v w)
theorem Amid.held {ops : Array Oper} {a0 : Act} {V : Nat → Value → World → Prop} {S : World → Prop} {listed : Array Bool} {a : Act} {w : World} (h : Amid ops a0 V S listed a w) : S w := h.1
theorem Amid.defers {ops : Array Oper} {a0 : Act} {V : Nat → Value → World → Prop} {S : World → Prop} {listed : Array Bool} {a : Act} {w : World} (h : Amid ops a0 V S listed a w) : a.defers = a0.defers := h.2.1
theorem Amid.size {ops : Array Oper} {a0 : Act} {V : Nat → Value → World → Prop} {S : World → Prop} {listed : Array Bool} {a : Act} {w : World} (h : Amid ops a0 V S listed a w) : a.tmps.size = a0.tmps.size := h.2.2.1
theorem Amid.lsize {ops : Array Oper} {a0 : Act} {V : Nat → Value → World → Prop} {S : World → Prop} {listed : Array Bool} {a : Act} {w : World} (h : Amid ops a0 V S listed a w) : listed.size = ops.size := h.2.2.2.1
theorem Amid.closed {ops : Array Oper} {a0 : Act} {V : Nat → Value → World → Prop} {S : World → Prop} {listed : Array Bool} {a : Act} {w : World} (h : Amid ops a0 V S listed a w) : ∀ (j : Nat) (oj : Oper), ops[j]? = some oj → listed.getD j false = true → ∀ e ∈ oj.after, Region.binds .any e = true → listed.getD e.on false = true := h.2.2.2.2.1
theorem Amid.same {ops : Array Oper} {a0 : Act} {V : Nat → Value → World → Prop} {S : World → Prop} {listed : Array Bool} {a : Act} {w : World} (h : Amid ops a0 V S listed a w) : ∀ d : Nat, (∀ (j : Nat) (oj : Oper), ops[j]? = some oj → oj.dst = some d → listed.getD j false = false) → a.tmps[d]? = a0.tmps[d]? := h.2.2.2.2.2.1
theorem Amid.val {ops : Array Oper} {a0 : Act} {V : Nat → Value → World → Prop} {S : World → Prop} {listed : Array Bool} {a : Act} {w : World} (h : Amid ops a0 V S listed a w) : ∀ (j : Nat) (oj : Oper) (d : Nat), ops[j]? = some oj → oj.dst = some d → listed.getD j false = true → ∃ v, a.tmps[d]? = some v ∧ V j v w := h.2.2.2.2.2.2
theorem getD_set (listed : Array Bool) (i j : Nat) (hi : i < listed.size) (b : Bool) : (listed.setIfInBounds i true).getD j b = if j = i then true else listed.getD j b := by
 simp only [Array.getD_eq_getD_getElem?, Array.getElem?_setIfInBounds]
 by_cases h : i = j
 ·
  subst h; simp [hi]
 ·
  rw [if_neg h, if_neg (fun e => h e.symm)]
def left (listed : Array Bool) : Nat := listed.toList.countP (fun b => !b)
theorem left_set (listed : Array Bool) (i : Nat) (hi : i < listed.size) (h : listed.getD i true = false) : left (listed.setIfInBounds i true) + 1 = left listed := by
 unfold left
 rw [Array.toList_setIfInBounds]
 have hl : i < listed.toList.length := by simpa using hi
 have hv : listed.toList[i] = false := by
  simp only [Array.getD_eq_getD_getElem?, Array.getElem?_eq_getElem hi, Option.getD_some] at h
  simpa using h
 have hpos : 0 < listed.toList.countP (fun b => !b) := by
  rw [List.countP_pos_iff]
  exact ⟨false, by rw [← hv]; exact List.getElem_mem hl, rfl⟩
 rw [List.countP_set hl, hv]
 have e1 : (!false) = true := rfl
 have e2 : (!true) = false := rfl
 simp only [e1, e2, if_true, Bool.false_eq_true, if_false, Nat.add_zero]
 omega
theorem getD_both {listed : Array Bool} {i : Nat} (hi : i < listed.size) (b c : Bool) : listed.getD i b = listed.getD i c := by
 simp [Array.getD_eq_getD_getElem?, hi]
theorem any_inv {P : Program} {ops : Array Oper} {Q : Exit → Act → World → Prop} {a0 : Act} (V : Nat → Value → World → Prop) (S : World → Prop) (R : World → World → Prop)
  (hfit : fit ops a0.tmps.size = true)
  (hmono : ∀ i v w w', R w w' → V i v w → V i v w')
  (hstep : ∀ i o, ops[i]? = some o → ∀ a w, S w → a.defers = a0.defers → a.tmps.size = a0.tmps.size →
   (∀ j oj d, ops[j]? = some oj → oj.dst = some d → waits o j = true → ∃ v, a.tmps[d]? = some v ∧ V j v w) →
   (∀ d, free ops i d = true → a.tmps[d]? = a0.tmps[d]?) →
   wpOp P ops Q i (fun a' w' => ∃ v, a' = a.put o.dst v ∧ V i v w' ∧ S w' ∧ R w w') a w)
  (hdone : ∀ a w, S w → a.defers = a0.defers → a.tmps.size = a0.tmps.size →
   (∀ d, (∀ (j : Nat) (oj : Oper), ops[j]? = some oj → oj.dst ≠ some d) → a.tmps[d]? = a0.tmps[d]?) →
   (∀ j oj d, ops[j]? = some oj → oj.dst = some d → ∃ v, a.tmps[d]? = some v ∧ V j v w) → Q .normal a w) :
  ∀ (fuel : Nat) (listed : Array Bool) (a : Act) (w : World), left listed = fuel → Amid ops a0 V S listed a w → wpAny P .any ops Q fuel listed a w := by
 have hend : ∀ (listed : Array Bool) (a : Act) (w : World), Amid ops a0 V S listed a w → Region.ready .any ops listed = [] → Q .normal a w := by
  intro listed a w hI hr
  have hall : ∀ i, i < ops.size → listed.getD i false = true := by
   intro i
   induction i using Nat.strongRecOn with
   | _ i ih =>
    intro hi
    have hi' : i < listed.size := by rw [hI.lsize]; exact hi
    cases hc : listed.getD i false with
    | true => rfl
    | false =>
     exfalso
     have hm : i ∈ Region.ready .any ops listed := by
      rw [mem_ready]
      refine ⟨by rw [getD_both hi' true false]; exact hc, _, Array.getElem?_eq_getElem hi, fun e he _ => ?_⟩
      have hlt := (fit_spec hfit (Array.getElem?_eq_getElem hi)).1 e he
      exact ih e.on hlt (by omega)
     rw [hr] at hm
     cases hm
  refine hdone a w hI.held hI.defers hI.size (fun d hd => hI.same d fun j oj hj hdj => absurd hdj (hd j oj hj)) fun j oj d hj hd => hI.val j oj d hj hd (hall j (Array.getElem?_eq_some_iff.1 hj).1)
 have hone : ∀ (listed : Array Bool) (a : Act) (w : World) (i : Nat), Amid ops a0 V S listed a w → i ∈ Region.ready .any ops listed → wpOp P ops Q i (Amid ops a0 V S (listed.setIfInBounds i true)) a w := by
  intro listed a w i hI hi
  obtain ⟨h0, o, ho, hall⟩ := mem_ready.1 hi
  have hlt : i < ops.size := (Array.getElem?_eq_some_iff.1 ho).1
  have hlt' : i < listed.size := by rw [hI.lsize]; exact hlt
  have h0' : listed.getD i false = false := by rw [getD_both hlt' false true]; exact h0
  obtain ⟨hearly, hdst⟩ := fit_spec hfit ho
  refine wpOp_mono ?_ (hstep i o ho a w hI.held hI.defers hI.size ?_ ?_)
  ·
   rintro a' w' ⟨v, rfl, hV, hS, hR⟩
   refine ⟨hS, ?_, ?_, by rw [Array.size_setIfInBounds]; exact hI.lsize, ?_, ?_, ?_⟩
   ·
    cases hd : o.dst <;> exact hI.defers
   ·
    cases hd : o.dst with
    | none => exact hI.size
    | some d => simpa [Act.put] using hI.size
   ·
    intro j oj hj hl e he hb
    rw [getD_set _ _ _ hlt']
    by_cases hji : j = i
    ·
     subst hji
     rw [ho] at hj
     cases hj
     have := hall e he hb
     split
     ·
      rfl
     ·
      exact this
    ·
     rw [getD_set _ _ _ hlt', if_neg hji] at hl
     split
     ·
      rfl
     ·
      exact hI.closed j oj hj hl e he hb
   ·
    intro d hd
    have hne : o.dst ≠ some d := by
     intro e
     have := hd i o ho e
     rw [getD_set _ _ _ hlt', if_pos rfl] at this
     cases this
    have hs := hI.same d fun j oj hj hdj => by
     have h := hd j oj hj hdj
     rw [getD_set _ _ _ hlt'] at h
     split at h
     ·
      cases h
     ·
      exact h
    cases hdd : o.dst with
    | none => exact hs
    | some d' =>
     have : d' ≠ d := fun e => hne (by rw [hdd, e])
     simp only [Act.put]
     rw [Array.getElem?_setIfInBounds_ne this]
     exact hs
   ·
    intro j oj d hj hd hl
    by_cases hji : j = i
    ·
     subst hji
     rw [ho] at hj
     cases hj
     refine ⟨v, ?_, hV⟩
     rw [hd]
     have := (hdst d hd).1
     simp only [Act.put]
     rw [Array.getElem?_setIfInBounds_self_of_lt (by rw [hI.size]; exact this)]
    ·
     rw [getD_set _ _ _ hlt', if_neg hji] at hl
     obtain ⟨u, hu, hVu⟩ := hI.val j oj d hj hd hl
     refine ⟨u, ?_, hmono j u _ _ hR hVu⟩
     cases hdd : o.dst with
     | none => exact hu
     | some d' =>
      have : d' ≠ d := fun e => hji ((hdst d' hdd).2 j oj hj (by rw [hd, e]))
      simp only [Act.put]
      rw [Array.getElem?_setIfInBounds_ne this]
      exact hu
  ·
   intro j oj d hj hd hwt
   obtain ⟨e, he, hb, rfl⟩ := waits_spec.1 hwt
   exact hI.val _ oj d hj hd (hall e he hb)
  ·
   intro d hd
   refine hI.same d fun j oj hj hdj => ?_
   cases hc : listed.getD j false with
   | false => rfl
   | true =>
    exfalso
    rcases free_spec hd hj hdj with hji | ⟨e, he, hb, hei⟩
    ·
     subst hji
     rw [h0'] at hc
     cases hc
    ·
     have := hI.closed j oj hj hc e he hb
     rw [hei, h0'] at this
     cases this
 intro fuel
 induction fuel with
 | zero =>
  intro listed a w hl hI
  have hr : Region.ready .any ops listed = [] := by
   cases hr : Region.ready .any ops listed with
   | nil => rfl
   | cons i r =>
    exfalso
    have hi : i ∈ Region.ready .any ops listed := by rw [hr]; exact List.mem_cons_self
    obtain ⟨h0, o, ho, _⟩ := mem_ready.1 hi
    have hlt : i < listed.size := by rw [hI.lsize]; exact (Array.getElem?_eq_some_iff.1 ho).1
    have := left_set listed i hlt h0
    omega
  exact ⟨hr, hend listed a w hI hr⟩
 | succ fuel ih =>
  intro listed a w hl hI
  refine ⟨hend listed a w hI, fun i hi => ?_⟩
  obtain ⟨h0, o, ho, _⟩ := mem_ready.1 hi
  have hlt : i < listed.size := by rw [hI.lsize]; exact (Array.getElem?_eq_some_iff.1 ho).1
  have hls := left_set listed i hlt h0
  exact wpOp_mono (fun a' w' h' => ih _ a' w' (by omega) h') (hone listed a w i hI hi)
theorem region_inv {P : Program} {ops : Array Oper} {Q : Exit → Act → World → Prop} {id : Nat} {a0 : Act} {w0 : World} (hm : P.follows .mixedOrders = true) (V : Nat → Value → World → Prop) (S : World → Prop) (R : World → World → Prop)
  (hfit : fit ops a0.tmps.size = true)
  (hmono : ∀ i v w w', R w w' → V i v w → V i v w')
  (hS : S w0.drew)
  (hstep : ∀ i o, ops[i]? = some o → ∀ a w, S w → a.defers = a0.defers → a.tmps.size = a0.tmps.size →
   (∀ j oj d, ops[j]? = some oj → oj.dst = some d → waits o j = true → ∃ v, a.tmps[d]? = some v ∧ V j v w) →
   (∀ d, free ops i d = true → a.tmps[d]? = a0.tmps[d]?) →
   wpOp P ops Q i (fun a' w' => ∃ v, a' = a.put o.dst v ∧ V i v w' ∧ S w' ∧ R w w') a w)
  (hdone : ∀ a w, S w → a.defers = a0.defers → a.tmps.size = a0.tmps.size →
   (∀ d, (∀ (j : Nat) (oj : Oper), ops[j]? = some oj → oj.dst ≠ some d) → a.tmps[d]? = a0.tmps[d]?) →
   (∀ j oj d, ops[j]? = some oj → oj.dst = some d → ∃ v, a.tmps[d]? = some v ∧ V j v w) → Q .normal a w) :
  (Code.region id ops true).wp P Q a0 w0 := by
 refine wp_region_any hm (any_inv V S R hfit hmono hstep hdone ops.size (Array.replicate ops.size false) a0 _ ?_ ?_)
 ·
  unfold left
  rw [Array.toList_replicate, List.countP_replicate]
  simp
 ·
  have hf : ∀ j, (Array.replicate ops.size false).getD j false = false := by
   intro j
   simp only [Array.getD_eq_getD_getElem?, Array.getElem?_replicate]
   split <;> rfl
  refine ⟨hS, rfl, rfl, by simp, ?_, fun d _ => rfl, ?_⟩
  ·
   intro j oj _ hl
   rw [hf] at hl
   cases hl
  ·
   intro j oj d _ _ hl
   rw [hf] at hl
   cases hl
theorem wanted_free {ops : Array Oper} {o : Oper} {tmps : Array Value} (h : o.guard = none) : Region.wanted o (yielded ops tmps) = true := by
 unfold Region.wanted
 rw [h]
theorem eval_tmp {a : Act} {d : Nat} {v : Value} (h : a.tmps[d]? = some v) : a.eval (.tmp d) = v := by
 simp [Act.eval, h]
theorem op_value {P : Program} {ops : Array Oper} {Q : Exit → Act → World → Prop} {i : Nat} {o : Oper} {a : Act} {w w' : World} {v : Value} {V : Nat → Value → World → Prop} {S : World → Prop} {R : World → World → Prop} (hi : ops[i]? = some o) (hw : Region.wanted o (yielded ops a.tmps) = true)
  (hr : (execOp a.eval o).run P w = .ok (.value v) w') (hV : V i v w') (hS : S w') (hR : R w w') :
  wpOp P ops Q i (fun a' w' => ∃ v, a' = a.put o.dst v ∧ V i v w' ∧ S w' ∧ R w w') a w := by
 unfold wpOp
 simp only [hi, hw, if_true]
 refine .inl ?_
 unfold Oper.wp
 rw [hr]
 exact ⟨v, rfl, hV, hS, hR⟩
theorem op_call {P : Program} {ops : Array Oper} {Q : Exit → Act → World → Prop} {i : Nat} {o : Oper} {a : Act} {w w' : World} {f : FuncId} {args : Array Value} {V : Nat → Value → World → Prop} {S : World → Prop} {R : World → World → Prop} (hi : ops[i]? = some o) (hw : Region.wanted o (yielded ops a.tmps) = true)
  (hr : (execOp a.eval o).run P w = .ok (.enter f args) w')
  (hc : Calls P f args w' fun e w'' => ∃ v, e = .returned v ∧ V i v w'' ∧ S w'' ∧ R w w'') :
  wpOp P ops Q i (fun a' w' => ∃ v, a' = a.put o.dst v ∧ V i v w' ∧ S w' ∧ R w w') a w := by
 unfold wpOp
 simp only [hi, hw, if_true]
 refine .inl ?_
 unfold Oper.wp
 rw [hr]
 refine Calls.mono hc ?_
 rintro e w'' ⟨v, rfl, hV, hS, hR⟩
 exact ⟨v, rfl, hV, hS, hR⟩
theorem unwritten {ops : Array Oper} {d : Nat} (h : (ops.toList.all fun o => o.dst != some d) = true) : ∀ (j : Nat) (oj : Oper), ops[j]? = some oj → oj.dst ≠ some d := by
 intro j oj hj
 rw [List.all_eq_true] at h
 have := h oj (Array.mem_toList_iff.2 (Array.mem_of_getElem? hj))
 simpa using this
def Fits (t : Array Value) : Nat → List Value → Prop
 | _, [] => True
 | i, v :: vs => t[i]? = some v ∧ Fits t (i + 1) vs
theorem Fits.get {t : Array Value} {l : List Value} {k : Nat} (h : Fits t k l) (i : Nat) (v : Value) (hi : l[i]? = some v) : t[k + i]? = some v := by
 induction l generalizing k i with
 | nil => simp at hi
 | cons x xs ih =>
  cases i with
  | zero => simp at hi; subst hi; exact h.1
  | succ i =>
   have := ih h.2 i (by simpa using hi)
   rw [show k + (i + 1) = k + 1 + i by omega]
   exact this
theorem frame_is {a : Act} {l : List Value} {ds : List Deferred} (h : Fits a.tmps 0 l) (hd : a.defers = ds) (hs : a.tmps.size = l.length) : a = ⟨l.toArray, ds⟩ := by
 obtain ⟨t, d⟩ := a
 subst hd
 congr 1
 apply Array.ext_getElem?
 intro i
 by_cases hi : i < l.length
 ·
  have := h.get i l[i] (List.getElem?_eq_getElem hi)
  rw [Nat.zero_add] at this
  rw [this, List.getElem?_toArray, List.getElem?_eq_getElem hi]
 ·
  rw [Array.getElem?_eq_none (by simp only at hs; omega), List.getElem?_toArray, List.getElem?_eq_none (by omega)]
end Go.Proofs.YtaecfbfcjaailaaGreat.Anyorder
namespace Go.Proofs.YtaecfbfcjaailaaGreat
open Go.RowKit Plain Anyorder
set_option linter.unusedVariables false
theorem countN_how (ls : List (List Bool)) (k : Nat) : countN ls k = howN (allB ls) k := by
 induction k with
 | zero => rfl
 | succ k ih => rw [countN_succ, howN, ih]
theorem count_incl (f g h u : Nat → Bool) (k : Nat) (hh : ∀ i, h i = (f i && g i)) (hu : ∀ i, i < k → u i = (!f i && !g i)) : howN f k + howN g k + howN u k = howN h k + k := by
 induction k with
 | zero => rfl
 | succ k ih =>
  have := ih fun i hi => hu i (by omega)
  rw [howN, howN, howN, howN, hh k, hu k (by omega)]
  cases f k <;> cases g k <;> simp [bn] <;> omega
theorem free_used {b m : List Bool} (h : b.length = m.length) : countB [b] + countB [m] + howN (freeB b m) m.length = countB [b, m] + m.length := by
 have e1 : countB [b] = howN (atB b) m.length := by
  unfold countB
  rw [countN_how, show longest [b] = m.length by simp [longest]; omega]
  apply howN_congr
  intro i _
  rw [Bool.eq_iff_iff]
  unfold allB
  rw [decide_eq_true_eq, howB_all]; simp
 have e2 : countB [m] = howN (atB m) m.length := by
  unfold countB
  rw [countN_how, show longest [m] = m.length by simp [longest]]
  apply howN_congr
  intro i _
  rw [Bool.eq_iff_iff]
  unfold allB
  rw [decide_eq_true_eq, howB_all]; simp
 have e3 : countB [b, m] = howN (fun i => atB b i && atB m i) m.length := by
  unfold countB
  rw [countN_how, show longest [b, m] = m.length by simp [longest]; omega]
  apply howN_congr
  intro i _
  rw [Bool.eq_iff_iff]
  unfold allB
  rw [decide_eq_true_eq, howB_all]; simp
 rw [e1, e2, e3]
 refine count_incl _ _ _ _ _ (fun _ => rfl) fun i hi => ?_
 unfold freeB
 rw [decide_eq_true hi, Bool.true_and, Bool.and_comm]
theorem first_ten {b m : List Bool} (h : rightA b m = true) : firstB 10 [b, m] = takeP b m := by
 obtain ⟨hl, _⟩ := (rightA_iff b m).1 h
 have hL : longest [b, m] = m.length := by simp [longest]; omega
 rcases takeP_spec hl with ⟨e, hn⟩ | ⟨p, e, hp, hf, hlo⟩
 ·
  rw [e]
  refine firstB_none fun j _ hj hh => ?_
  rw [hL] at hj
  have := hn j hj
  rw [(freeB_how hj).2 hh] at this
  cases this
 ·
  rw [e]
  refine firstB_is (by have := free_ten h hf; omega) (by omega) ((freeB_how hp).1 hf) fun j _ hj hh => ?_
  have := hlo j hj
  rw [(freeB_how (by omega)).2 hh] at this
  cases this
end Go.Proofs.YtaecfbfcjaailaaGreat
namespace Go.Proofs.YtaecfbfcjaailaaGreat
open Go.RowKit Plain
set_option linter.unusedVariables false
set_option maxHeartbeats 1000000 in
theorem making_any (a a' : Option Addr) (c c' n n' : Nat) (b : List Bool) (w : World) (hn : n = b.length) (hl : n ≤ 4096) (hB : IsB w a c b) :
  Calls Tryz.prog 99 #[.slice a n c, .slice a' n' c'] w fun e w' => ∃ a1 c1, e = .returned (.agg #[.slice a1 n c1, .slice a' n' c']) ∧ OwnT w.heap.size w' a1 c1 b ∧ Below w.heap.size w w' := by
 have hB0 : Below w.heap.size w (w.alloc (.cells #[.slice none 0 0, .slice none 0 0] 24)) := (Below.refl _ _).alloc (Nat.le_refl _) _
 have bx := box2_new w (.slice none 0 0) (.slice none 0 0) 24 rfl
 have cc := clone_any a c n b _ hn (hB.below hB0) hl
 clear hn hB
 go_enter Tryz.func99, Tryz.ntmps99
 go_wp2_with (go_at_call 51; refine cc.mono ?_; rintro e w1 ⟨a1, c1, rfl, ho, hb⟩; have HO : Hid (OwnT _ w1 a1 c1 b) := ho; replace hB0 := Below.tr hB0 hb; obtain ⟨⟨q0, q1⟩, f0, f1⟩ := bx.below hb; clear ho hb cc bx)
 refine bodyPost_ret (v := .agg #[.slice a1 n c1, .slice a' n' c']) (by simp [results, Tryz.results99, go_sem, q0, q1]) rfl ⟨a1, c1, rfl, ?_, below_set2 hB0 (Nat.le_refl _)⟩
 exact ((HO.out.store (by simp) _ _).store (by simp) _ _).mono (by simp)
theorem two_box2 {w W : World} {v0 v1 u0 u1 : Value} {t : TypeId} (hW : W = (w.alloc (.cells #[v0, v1] t)).alloc (.cells #[u0, u1] t)) :
  Below w.heap.size w W ∧ W.heap.size = w.heap.size + 2 ∧ Box2 W w.heap.size v0 v1 ∧ Box2 W (w.heap.size + 1) u0 u1 := by
 subst hW
 refine ⟨((Below.refl _ _).alloc (Nat.le_refl _) _).alloc (by simp) _, by simp, (box2_new _ _ _ _ rfl).alloc _, box2_new _ _ _ _ (by simp)⟩
theorem take_wrong {b m : List Bool} (h : rightA b m = false) : takeE b m = 1 := by unfold takeE; rw [h]; rfl
theorem take_none {b m : List Bool} (h : rightA b m = true) (hp : takeP b m = -1) : takeE b m = 60 := by unfold takeE; rw [if_pos h, if_pos hp]
theorem take_some {b m : List Bool} (h : rightA b m = true) {p : Nat} (hp : takeP b m = p) : takeE b m = 0 := by unfold takeE; rw [if_pos h, if_neg (by omega)]
theorem take_err {b m : List Bool} (h : takeE b m ≠ 0) : takeK b m = 0 ∧ takeB b m = [] ∧ takeNow b m = [] := by unfold takeK takeB takeNow; rw [if_neg h, if_neg h, if_neg h]; exact ⟨rfl, rfl, rfl⟩
theorem took_ok {b m : List Bool} (h : takeE b m = 0) {p : Nat} (hp : takeP b m = p) : takeK b m = p ∧ takeB b m = b ∧ takeNow b m = m.set p true := by unfold takeK takeB takeNow; rw [if_pos h, if_pos h, if_pos h, hp]; exact ⟨rfl, rfl, rfl⟩
set_option maxRecDepth 20000 in
set_option maxHeartbeats 2000000 in
theorem allocTake_any (a a' : Option Addr) (c c' n n' : Nat) (b m : List Bool) (w : World) (hn : n = b.length) (hn' : n' = m.length) (hB : IsB w a c b) (hB' : IsB w a' c' m) :
  Calls Tryz.prog 83 #[.agg #[.slice a n c, .slice a' n' c']] w fun e w' => ∃ a1 c1 a2 c2, e = .returned (.tuple #[.agg #[.slice a1 (takeB b m).length c1, .slice a2 (takeNow b m).length c2], .int .i64 (takeK b m), .int .i64 (takeE b m)]) ∧ OwnT w.heap.size w' a1 c1 (takeB b m) ∧ OwnT w.heap.size w' a2 c2 (takeNow b m) ∧ Below w.heap.size w w' := by
 obtain ⟨W, hW⟩ : ∃ W, W = (w.alloc (.cells #[.slice a n c, .slice a' n' c'] 24)).alloc (.cells #[.slice none 0 0, .slice none 0 0] 24) := ⟨_, rfl⟩
 obtain ⟨hB0, hWs, bi, bo⟩ := two_box2 hW
 have HB : Below W.heap.size W W := Below.refl _ _
 have cr := allocRight_any a a' c c' n n' b m W hn hn' (hB.below hB0) (hB'.below hB0)
 have fin : ∀ k : Int, takeE b m = k → k ≠ 0 → ∀ w1, Below w.heap.size w w1 → ∃ a1 c1 a2 c2, Ending.returned (.tuple #[.agg #[.slice none 0 0, .slice none 0 0], .int .i64 0, .int .i64 k]) = .returned (.tuple #[.agg #[.slice a1 (takeB b m).length c1, .slice a2 (takeNow b m).length c2], .int .i64 (takeK b m), .int .i64 (takeE b m)]) ∧ OwnT w.heap.size w1 a1 c1 (takeB b m) ∧ OwnT w.heap.size w1 a2 c2 (takeNow b m) ∧ Below w.heap.size w w1 := by
  rintro k rfl hk w1 hb
  obtain ⟨e1, e2, e3⟩ := take_err hk
  rw [e1, e2, e3]
  exact ⟨none, 0, none, 0, rfl, OwnT_nil _ _, OwnT_nil _ _, hb⟩
 cases hr : rightA b m with
 | false =>
  have hE : Hid (takeE b m = 1) := take_wrong hr
  rw [hr, hW] at cr
  clear hn hn' hB hB'
  go_enter Tryz.func83, Tryz.ntmps83
  go_wp2_with (go_at_call 43; refine cr.mono ?_; rintro e w1 ⟨rfl, hb⟩; rw [← hW] at hb; replace HB := Below.tr HB hb; obtain ⟨⟨q0, q1⟩, f0, f1⟩ := bo.below hb; clear hb cr)
  refine bodyPost_ret (v := .tuple #[.agg #[.slice none 0 0, .slice none 0 0], .int .i64 0, .int .i64 1]) (by simp [results, Tryz.results83, go_sem, q0, q1]) rfl (fin 1 hE.out (by decide) _ ?_)
  exact below_set2 (Below.tr hB0 HB) (Nat.le_succ _)
 | true =>
  obtain ⟨hl, h24, h48, -⟩ := (rightA_iff b m).1 hr
  have hnb : n ≤ 4096 := by omega
  have hnb' : n' ≤ 4096 := by omega
  obtain ⟨P, hP⟩ : ∃ P, P = takeP b m := ⟨_, rfl⟩
  have cf : ∀ V, Below W.heap.size W V → Calls Tryz.prog 97 #[.int .i64 10, .slice (some ⟨V.heap.size, 0, none⟩) 2 2] (V.alloc (.cells #[.slice a n c, .slice a' n' c'] 22)) fun e w' => e = .returned (.int .i64 P) ∧ Below V.heap.size V w' := by
   intro V hV
   have := first_two V 10 a a' c c' n n' b m hn hn' (hB.below (Below.tr hB0 hV)) (hB'.below (Below.tr hB0 hV)) hnb hnb'
   rw [first_ten hr, ← hP] at this
   exact this
  rw [hr, hW] at cr
  rcases takeP_spec hl with ⟨e, -⟩ | ⟨p, e, hp, hf, -⟩
  ·
   have hE : Hid (takeE b m = 60) := take_none hr e
   obtain rfl : P = -1 := by rw [hP, e]
   clear hn hn' hB hB' hP
   go_enter Tryz.func83, Tryz.ntmps83
   go_wp2_with (first
    | (go_at_call 43; refine cr.mono ?_; rintro e w1 ⟨rfl, hb⟩; rw [← hW] at hb; replace HB := Below.tr HB hb; obtain ⟨⟨q0, q1⟩, -, -⟩ := bi.below hb; clear hb cr)
    | (go_at_call 97; refine (cf _ HB).mono ?_; rintro e w2 ⟨rfl, hb⟩; replace HB := Below.tr HB hb; obtain ⟨⟨q0, q1⟩, f0, f1⟩ := bo.below HB; clear hb cf))
   refine bodyPost_ret (v := .tuple #[.agg #[.slice none 0 0, .slice none 0 0], .int .i64 0, .int .i64 60]) (by simp [results, Tryz.results83, go_sem, q0, q1]) rfl (fin 60 hE.out (by decide) _ ?_)
   exact below_set2 (Below.tr hB0 HB) (Nat.le_succ _)
  ·
   have hE : takeE b m = 0 := take_some hr e
   obtain ⟨g1, g2, g3⟩ := took_ok hE e
   have G : Hid (takeE b m = 0 ∧ takeK b m = p ∧ takeB b m = b ∧ takeNow b m = m.set p true ∧ (m.set p true).length = n' ∧ b.length = n) := ⟨hE, g1, g2, g3, by rw [List.length_set, hn'], hn.symm⟩
   obtain rfl : P = p := by rw [hP, e]
   have hpn : p < n' := by omega
   have ep : ((p : Int) == -1) = false := by rw [beq_eq_false_iff_ne]; omega
   have cw : ∀ V, Below W.heap.size W V → Calls Tryz.prog 98 #[.slice a' n' c', .bool true, .slice (some ⟨V.heap.size, 0, none⟩) 1 1] (V.alloc (.cells #[.int .i64 p] 3)) fun e w' => ∃ a2 c2, e = .returned (.tuple #[.slice a2 n' c2, .int .i64 0]) ∧ OwnT V.heap.size w' a2 c2 (m.set p true) ∧ Below V.heap.size V w' :=
    fun V hV => with_own_one V a' c' n' m true p hn' (hB'.below (Below.tr hB0 hV)) hnb' hpn
   have cm : ∀ V a2 c2, Below W.heap.size W V → Calls Tryz.prog 99 #[.slice a n c, .slice a2 n' c2] V fun e w' => ∃ a1 c1, e = .returned (.agg #[.slice a1 n c1, .slice a2 n' c2]) ∧ OwnT V.heap.size w' a1 c1 b ∧ Below V.heap.size V w' :=
    fun V a2 c2 hV => making_any a a2 c c2 n n' b V hn hnb (hB.below (Below.tr hB0 hV))
   clear hn hn' hB hB' hP g1 g2 g3 hE e
   go_enter Tryz.func83, Tryz.ntmps83
   go_wp2_with (first
    | (go_at_call 43; refine cr.mono ?_; rintro e w1 ⟨rfl, hb⟩; rw [← hW] at hb; replace HB := Below.tr HB hb; obtain ⟨⟨q0, q1⟩, -, -⟩ := bi.below hb; clear hb cr)
    | (go_at_call 97; refine (cf _ HB).mono ?_; rintro e w2 ⟨rfl, hb⟩; replace HB := Below.tr HB hb; obtain ⟨⟨r0, r1⟩, -, -⟩ := bi.below HB; clear hb cf)
    | (go_at_call 98; refine (cw _ HB).mono ?_; rintro e w3 ⟨a2, c2, rfl, ho, hb⟩; have O2 : Hid (OwnT W.heap.size w3 a2 c2 (m.set p true)) := ho.mono HB.size; replace HB := Below.tr HB hb; obtain ⟨⟨s0, s1⟩, -, -⟩ := bi.below HB; clear hb cw ho)
    | (go_at_call 99; refine (cm _ a2 c2 HB).mono ?_; rintro e w4 ⟨a1, c1, rfl, ho, hb⟩; have O1 : Hid (OwnT W.heap.size w4 a1 c1 b) := ho.mono HB.size; replace HB := Below.tr HB hb; have O3 : Hid (OwnT W.heap.size w4 a2 c2 (m.set p true)) := O2.out.below hb; obtain ⟨⟨t0, t1⟩, f0, f1⟩ := bo.below HB; clear hb cm ho O2))
   obtain ⟨g0, g1, g2, g3, g4, g5⟩ := G.out
   refine bodyPost_ret (v := .tuple #[.agg #[.slice a1 n c1, .slice a2 n' c2], .int .i64 p, .int .i64 0]) (by simp [results, Tryz.results83, go_sem, t0, t1]) rfl ⟨a1, c1, a2, c2, by rw [g0, g1, g2, g3, g4, g5], ?_, ?_, below_set2 (Below.tr hB0 HB) (Nat.le_succ _)⟩
   ·
    rw [g2]
    exact ((O1.out.store (by omega) _ _).store (by omega) _ _).mono (by omega)
   ·
    rw [g3]
    exact ((O3.out.store (by omega) _ _).store (by omega) _ _).mono (by omega)
theorem give_err {b m : List Bool} {xs : List Int} (h : giveE b m xs ≠ 0) : giveB b m xs = [] ∧ giveN b m xs = [] := by unfold giveB giveN; rw [if_neg h, if_neg h]; exact ⟨rfl, rfl⟩
theorem give_wrong {b m : List Bool} {xs : List Int} (h : rightA b m = false) : giveE b m xs = 1 := by unfold giveE; rw [h]; rfl
theorem give_none {b m : List Bool} {xs : List Int} (h : rightA b m = true) (hg : giveR m xs = none) : giveE b m xs = 30 := by unfold giveE; rw [if_pos h, hg]; rfl
theorem give_some {b m l : List Bool} {xs : List Int} (h : rightA b m = true) (hg : giveR m xs = some l) : giveE b m xs = 0 ∧ giveB b m xs = b ∧ giveN b m xs = l := by
 have hE : giveE b m xs = 0 := by unfold giveE; rw [if_pos h, hg]; rfl
 unfold giveB giveN
 rw [if_pos hE, if_pos hE, hg]
 exact ⟨hE, rfl, rfl⟩
theorem giveR_bad {m l : List Bool} {xs : List Int} {j : Nat} {x : Int} (h : giveR m (xs.take j) = some l) (hx : xs[j]? = some x) (hb : ¬ (10 ≤ x ∧ x < l.length ∧ atB l x.toNat = true)) : giveR m xs = none := by
 apply giveR_stop (j := j + 1)
 rw [giveR_take h hx, if_neg hb]
set_option maxRecDepth 20000 in
set_option maxHeartbeats 2000000 in
theorem allocGive_any (a a' ap : Option Addr) (c c' cp n n' k : Nat) (b m : List Bool) (xs : List Int) (w : World) (hn : n = b.length) (hn' : n' = m.length) (hk : k = xs.length) (hB : IsB w a c b) (hB' : IsB w a' c' m) (hI : IsI w ap cp xs) :
  Calls Tryz.prog 104 #[.agg #[.slice a n c, .slice a' n' c'], .slice ap k cp] w fun e w' => ∃ a1 c1 a2 c2, e = .returned (.tuple #[.agg #[.slice a1 (giveB b m xs).length c1, .slice a2 (giveN b m xs).length c2], .int .i64 (giveE b m xs)]) ∧ OwnT w.heap.size w' a1 c1 (giveB b m xs) ∧ OwnT w.heap.size w' a2 c2 (giveN b m xs) ∧ Below w.heap.size w w' := by
 obtain ⟨W, hW⟩ : ∃ W, W = (w.alloc (.cells #[.slice a n c, .slice a' n' c'] 24)).alloc (.cells #[.slice none 0 0, .slice none 0 0] 24) := ⟨_, rfl⟩
 obtain ⟨hB0, hWs, bi, bo⟩ := two_box2 hW
 have HB : Below W.heap.size W W := Below.refl _ _
 have hkb : k ≤ 9223372036854775807 := by rw [hk]; exact Nat.le_trans hI.1 hI.2.1
 have cr := allocRight_any a a' c c' n n' b m W hn hn' (hB.below hB0) (hB'.below hB0)
 have fin : ∀ k : Int, giveE b m xs = k → k ≠ 0 → ∀ w1, Below w.heap.size w w1 → ∃ a1 c1 a2 c2, Ending.returned (.tuple #[.agg #[.slice none 0 0, .slice none 0 0], .int .i64 k]) = .returned (.tuple #[.agg #[.slice a1 (giveB b m xs).length c1, .slice a2 (giveN b m xs).length c2], .int .i64 (giveE b m xs)]) ∧ OwnT w.heap.size w1 a1 c1 (giveB b m xs) ∧ OwnT w.heap.size w1 a2 c2 (giveN b m xs) ∧ Below w.heap.size w w1 := by
  rintro k rfl hk w1 hb
  obtain ⟨e2, e3⟩ := give_err hk
  rw [e2, e3]
  exact ⟨none, 0, none, 0, rfl, OwnT_nil _ _, OwnT_nil _ _, hb⟩
 cases hr : rightA b m with
 | false =>
  have hE : Hid (giveE b m xs = 1) := give_wrong hr
  rw [hr, hW] at cr
  clear hn hn' hB hB' hk hI
  go_enter Tryz.func104, Tryz.ntmps104
  go_wp2_with (go_at_call 43; refine cr.mono ?_; rintro e w1 ⟨rfl, hb⟩; rw [← hW] at hb; replace HB := Below.tr HB hb; obtain ⟨⟨q0, q1⟩, f0, f1⟩ := bo.below hb; clear hb cr)
  refine bodyPost_ret (v := .tuple #[.agg #[.slice none 0 0, .slice none 0 0], .int .i64 1]) (by simp [results, Tryz.results104, go_sem, q0, q1]) rfl (fin 1 hE.out (by decide) _ ?_)
  exact below_set2 (Below.tr hB0 HB) (Nat.le_succ _)
 | true =>
  obtain ⟨hl, h24, h48, -⟩ := (rightA_iff b m).1 hr
  have hnb : n ≤ 4096 := by omega
  have hnb' : n' ≤ 4096 := by omega
  have cc : ∀ V, Below W.heap.size W V → Calls Tryz.prog 51 #[.slice a' n' c'] V fun e w' => ∃ a2 c2, e = .returned (.slice a2 n' c2) ∧ OwnT V.heap.size w' a2 c2 m ∧ Below V.heap.size V w' :=
   fun V hV => clone_any a' c' n' m V hn' (hB'.below (Below.tr hB0 hV)) hnb'
  have cm : ∀ V a2 c2, Below W.heap.size W V → Calls Tryz.prog 99 #[.slice a n c, .slice a2 n' c2] V fun e w' => ∃ a1 c1, e = .returned (.agg #[.slice a1 n c1, .slice a2 n' c2]) ∧ OwnT V.heap.size w' a1 c1 b ∧ Below V.heap.size V w' :=
   fun V a2 c2 hV => making_any a a2 c c2 n n' b V hn hnb (hB.below (Below.tr hB0 hV))
  have HI : Hid (IsI w ap cp xs) := hI
  have HK : Hid (k = xs.length) := hk
  have HN : Hid (n = b.length ∧ n' = m.length ∧ rightA b m = true) := ⟨hn, hn', hr⟩
  rw [hr, hW] at cr
  clear hn hn' hB hB' hk hI h24 h48 hl hr
  go_enter Tryz.func104, Tryz.ntmps104
  go_wp2_with (first
   | (go_at_call 43; refine cr.mono ?_; rintro e w1 ⟨rfl, hb⟩; rw [← hW] at hb; replace HB := Below.tr HB hb; obtain ⟨⟨q0, q1⟩, -, -⟩ := bi.below hb; clear hb cr)
   | (go_at_call 51; refine (cc _ HB).mono ?_; rintro e w2 ⟨a2, c2, rfl, ho, hb⟩; have O2 : Hid (OwnT W.heap.size w2 a2 c2 m) := ho.mono HB.size; replace HB := Below.tr HB hb; clear hb cc ho))
  go_loopw [18] (fun v wr => ∃ (j : Nat) (l : List Bool), j ≤ k ∧ v = .int .i64 j ∧ giveR m (xs.take j) = some l ∧ OwnT W.heap.size wr a2 c2 l ∧ Below W.heap.size W wr) (fun v _ => k - (intOf v).toNat)
  case atStart => exact ⟨0, m, by omega, rfl, rfl, O2.out, HB⟩
  case round =>
   obtain ⟨j, l, hj, rfl, hgl, hown, hbel⟩ := hrel
   have HO : Hid (OwnT W.heap.size wr a2 c2 l) := hown
   have HG : Hid (giveR m (xs.take j) = some l) := hgl
   have hll : l.length = n' := by rw [giveR_length hgl, HN.out.2.1]
   clear hown hgl
   by_cases hlt : j < k
   ·
    have hlt' : (j : Int) < k := by omega
    obtain ⟨x, hx⟩ : ∃ p, Hid (xs[j]? = some p) := ⟨_, List.getElem?_eq_getElem (by rw [← HK.out]; exact hlt)⟩
    obtain ⟨bb, oo, rfl, hbl, hc0⟩ := HI.out.2.2 j x hx.out
    have hc := cell_below (Below.tr hB0 hbel) hc0
    obtain ⟨⟨r0, r1⟩, f0, f1⟩ := bo.below hbel
    by_cases hok : 10 ≤ x ∧ x < l.length ∧ atB l x.toNat = true
    ·
     obtain ⟨q, rfl⟩ : ∃ q : Nat, x = q := ⟨x.toNat, by omega⟩
     have hq1 : ¬ (q : Int) < 10 := by omega
     have hq2 : ¬ (n' : Int) ≤ q := by omega
     have hqn : q < n' := by omega
     have hql : q < l.length := by omega
     have hat : l[q]? = some true := by
      have := hok.2.2
      rw [Int.toNat_natCast] at this
      rw [List.getElem?_eq_getElem hql]
      rw [atB_some (List.getElem?_eq_getElem hql)] at this
      rw [this]
     obtain ⟨g, rfl, hg, hrow⟩ := HO.out.some (by omega)
     obtain ⟨hcx, hfx⟩ := hrow.cell hat
     have hset : Hid (OwnT W.heap.size (wr.setCell ⟨g, q, none⟩ (.bool false)) (some ⟨g, 0, none⟩) c2 (l.set q false)) := .inr ⟨g, rfl, hg, hrow.set q false⟩
     have hnx : Hid (giveR m (xs.take (j + 1)) = some (l.set q false)) := by
      show _ = _
      rw [giveR_take HG.out hx.out, if_pos hok, Int.toNat_natCast]
     clear hrow hat hok hll
     go_wp2
     go_roundw
     case rel => exact ⟨j + 1, l.set q false, by omega, by go_num, hnx.out, hset.out, hbel.setCell (p := ⟨g, q, none⟩) hg _⟩
     case measure => simp [intOf]; omega
    ·
     have hE : Hid (giveE b m xs = 30) := give_none HN.out.2.2 (giveR_bad HG.out hx.out hok)
     have hend : ∀ w1, w1 = (wr.setCell ⟨w.heap.size + 1, 0, none⟩ (.slice none 0 0)).setCell ⟨w.heap.size + 1, 1, none⟩ (.slice none 0 0) → Below w.heap.size w w1 := by
      rintro w1 rfl; exact below_set2 (Below.tr hB0 hbel) (Nat.le_succ _)
     by_cases h1 : x < 10
     ·
      clear hok
      go_wp2
      refine bodyPost_ret (v := .tuple #[.agg #[.slice none 0 0, .slice none 0 0], .int .i64 30]) (by simp [results, Tryz.results104, go_sem, r0, r1]) rfl (fin 30 hE.out (by decide) _ (hend _ rfl))
     ·
      by_cases h2 : (n' : Int) ≤ x
      ·
       clear hok
       go_wp2
       refine bodyPost_ret (v := .tuple #[.agg #[.slice none 0 0, .slice none 0 0], .int .i64 30]) (by simp [results, Tryz.results104, go_sem, r0, r1]) rfl (fin 30 hE.out (by decide) _ (hend _ rfl))
      ·
       obtain ⟨q, rfl⟩ : ∃ q : Nat, x = q := ⟨x.toNat, by omega⟩
       have hqn : (q : Int) < n' := by omega
       have hql : q < l.length := by omega
       have hat : l[q]? = some false := by
        rw [List.getElem?_eq_getElem hql]
        cases hv : l[q] with
        | false => rfl
        | true => exact absurd ⟨by omega, by omega, by rw [Int.toNat_natCast, atB_some (List.getElem?_eq_getElem hql)]; exact hv⟩ hok
       obtain ⟨g, rfl, hg, hrow⟩ := HO.out.some (by omega)
       obtain ⟨hcx, hfx⟩ := hrow.cell hat
       clear hrow hat hok hll
       go_wp2
       refine bodyPost_ret (v := .tuple #[.agg #[.slice none 0 0, .slice none 0 0], .int .i64 30]) (by simp [results, Tryz.results104, go_sem, r0, r1]) rfl (fin 30 hE.out (by decide) _ (hend _ rfl))
   ·
    obtain rfl : j = k := by omega
    have hE : Hid (giveE b m xs = 0 ∧ giveB b m xs = b ∧ giveN b m xs = l) := give_some HN.out.2.2 (by have := HG.out; rw [HK.out, List.take_length] at this; exact this)
    obtain ⟨⟨q0, q1⟩, -, -⟩ := bi.below hbel
    go_wp2_with (go_at_call 99; refine (cm _ a2 c2 hbel).mono ?_; rintro e w4 ⟨a1, c1, rfl, ho, hb⟩; have O1 : Hid (OwnT W.heap.size w4 a1 c1 b) := ho.mono hbel.size; have HB4 := Below.tr hbel hb; have O3 : Hid (OwnT W.heap.size w4 a2 c2 l) := HO.out.below hb; obtain ⟨⟨t0, t1⟩, f0, f1⟩ := bo.below HB4; clear hb cm ho)
    obtain ⟨g0, g1, g2⟩ := hE.out
    refine bodyPost_ret (v := .tuple #[.agg #[.slice a1 n c1, .slice a2 n' c2], .int .i64 0]) (by simp [results, Tryz.results104, go_sem, t0, t1]) rfl ⟨a1, c1, a2, c2, by rw [g0, g1, g2, hll, ← HN.out.1], ?_, ?_, below_set2 (Below.tr hB0 HB4) (Nat.le_succ _)⟩
    ·
     rw [g1]
     exact ((O1.out.store (by omega) _ _).store (by omega) _ _).mono (by omega)
    ·
     rw [g2]
     exact ((O3.out.store (by omega) _ _).store (by omega) _ _).mono (by omega)
theorem right_size {b m : List Bool} (h : ¬ (24 ≤ m.length ∧ m.length ≤ 2048)) : rightA b m = false := by
 rw [Bool.eq_false_iff]
 intro hr
 obtain ⟨_, h1, h2, _⟩ := (rightA_iff b m).1 hr
 exact h ⟨h1, h2⟩
theorem right_place {b m : List Bool} {i : Nat} (hi : i < 10) (h : atB b i = false ∨ atB m i = false) : rightA b m = false := by
 rw [Bool.eq_false_iff]
 intro hr
 obtain ⟨_, _, _, h4⟩ := (rightA_iff b m).1 hr
 obtain ⟨h5, h6⟩ := h4 i hi
 rcases h with h | h
 ·
  rw [h] at h5; cases h5
 ·
  rw [h] at h6; cases h6
set_option maxHeartbeats 1000000 in
theorem allocRefRight_any (a a' : Option Addr) (c c' n n' : Nat) (b m : List Bool) (w : World) (hn : n = b.length) (hn' : n' = m.length) (hB : IsB w a c b) (hB' : IsB w a' c' m) :
  Calls Tryz.prog 25 #[.agg #[.slice a n c, .slice a' n' c']] w fun e w' => e = .returned (.bool (rightA b m)) ∧ Below w.heap.size w w' := by
 have hnb : n ≤ 9223372036854775807 := by rw [hn]; exact Nat.le_trans hB.1 hB.2.1
 have hnb' : n' ≤ 9223372036854775807 := by rw [hn']; exact Nat.le_trans hB'.1 hB'.2.1
 have hB0 : Below w.heap.size w (w.alloc (.cells #[.slice a n c, .slice a' n' c'] 24)) := (Below.refl _ _).alloc (Nat.le_refl _) _
 obtain ⟨⟨q0, q1⟩, -⟩ := box2_new w (.slice a n c) (.slice a' n' c') 24 rfl
 by_cases hl : n = n'
 ·
  subst hl
  by_cases h24 : 24 ≤ n
  ·
   by_cases h48 : n ≤ 2048
   ·
    have h1 : ¬ (n : Int) < 24 := by omega
    have h2 : ¬ (2048 : Int) < n := by omega
    have HB : Hid (IsB _ a c b) := hB.below hB0
    have HB' : Hid (IsB _ a' c' m) := hB'.below hB0
    have HN : Hid (n = b.length ∧ n = m.length) := ⟨hn, hn'⟩
    obtain ⟨b1, o1, rfl, -⟩ := hB.some (by omega)
    obtain ⟨b2, o2, rfl, -⟩ := hB'.some (by omega)
    clear hn hn' hB hB'
    go_enter Tryz.func25, Tryz.ntmps25
    go_wp2
    generalize w.alloc (.cells #[.slice (some ⟨b1, o1, none⟩) n c, .slice (some ⟨b2, o2, none⟩) n c'] 24) = W at q0 q1 hB0 HB HB' ⊢
    go_loopw [3] (fun v wr => ∃ j : Nat, j ≤ 10 ∧ v = .int .i64 j ∧ (∀ i, i < j → atB b i = true ∧ atB m i = true) ∧ W = wr) (fun v _ => 10 - (intOf v).toNat)
    case atStart => exact ⟨0, by omega, rfl, fun i hi => by omega, by trivial⟩
    case round =>
     obtain ⟨j, hj, rfl, hall, rfl⟩ := hrel
     have HA : Hid (∀ i, i < j → atB b i = true ∧ atB m i = true) := hall
     clear hall
     by_cases hlt : j < 10
     ·
      have hlt' : (j : Int) < 10 := by omega
      have hjn : (j : Int) < n := by omega
      obtain ⟨x, hx⟩ : ∃ q, Hid (b[j]? = some q) := ⟨_, List.getElem?_eq_getElem (by rw [← HN.out.1]; omega)⟩
      obtain ⟨y, hy⟩ : ∃ q, Hid (m[j]? = some q) := ⟨_, List.getElem?_eq_getElem (by rw [← HN.out.2]; omega)⟩
      have hc1 := HB.out.at hx.out
      have hc2 := HB'.out.at hy.out
      cases x with
      | false =>
       have hE : Hid (rightA b m = false) := right_place hlt (.inl (atB_some hx.out))
       go_wp2
       go_ret
       exact ⟨ret_bool hE.out.symm, hB0⟩
      | true =>
       cases y with
       | false =>
        have hE : Hid (rightA b m = false) := right_place hlt (.inr (atB_some hy.out))
        go_wp2
        go_ret
        exact ⟨ret_bool hE.out.symm, hB0⟩
       | true =>
        have hnx : Hid (∀ i, i < j + 1 → atB b i = true ∧ atB m i = true) := by
         intro i hi
         by_cases e : i = j
         ·
          rw [e]; exact ⟨atB_some hx.out, atB_some hy.out⟩
         ·
          exact HA.out i (by omega)
        go_wp2
        go_roundw
        case rel => exact ⟨j + 1, by omega, by go_num, hnx.out, by trivial⟩
        case measure => simp [intOf]; omega
     ·
      obtain rfl : j = 10 := by omega
      have hE : Hid (rightA b m = true) := (rightA_iff b m).2 ⟨HN.out.1.symm.trans HN.out.2, by have := HN.out.2; omega, by have := HN.out.2; omega, HA.out⟩
      go_wp2
      go_ret
      exact ⟨ret_bool hE.out.symm, hB0⟩
   ·
    have hE : Hid (rightA b m = false) := right_size (by omega)
    have h1 : ¬ (n : Int) < 24 := by omega
    have h2 : (2048 : Int) < n := by omega
    clear hn hn' hB hB'
    go_enter Tryz.func25, Tryz.ntmps25
    go_wp2
    go_ret
    exact ⟨ret_bool hE.out.symm, hB0⟩
  ·
   have hE : Hid (rightA b m = false) := right_size (by omega)
   have h1 : (n : Int) < 24 := by omega
   clear hn hn' hB hB'
   go_enter Tryz.func25, Tryz.ntmps25
   go_wp2
   go_ret
   exact ⟨ret_bool hE.out.symm, hB0⟩
 ·
  have hE : Hid (rightA b m = false) := right_lens (by omega)
  have hl' : ((n : Int) == n') = false := by rw [beq_eq_false_iff_ne]; omega
  clear hn hn' hB hB'
  go_enter Tryz.func25, Tryz.ntmps25
  go_wp2
  go_ret
  exact ⟨ret_bool hE.out.symm, hB0⟩
def likeA (b m b' m' : List Bool) : Bool := decide (b = b') && decide (m = m')
theorem likeA_same (b m : List Bool) : likeA b m b m = true := by unfold likeA; simp
set_option maxHeartbeats 1000000 in
theorem allocLike_any (a a' d d' : Option Addr) (c c' e e' n n' k k' : Nat) (b m b' m' : List Bool) (w : World) (hn : n = b.length) (hn' : n' = m.length) (hk : k = b'.length) (hk' : k' = m'.length)
  (hB : IsB w a c b) (hB' : IsB w a' c' m) (hD : IsB w d e b') (hD' : IsB w d' e' m') :
  Calls Tryz.prog 34 #[.agg #[.slice a n c, .slice a' n' c'], .agg #[.slice d k e, .slice d' k' e']] w fun x w' => x = .returned (.bool (likeA b m b' m')) ∧ Below w.heap.size w w' := by
 obtain ⟨W, hW⟩ : ∃ W, W = (w.alloc (.cells #[.slice a n c, .slice a' n' c'] 24)).alloc (.cells #[.slice d k e, .slice d' k' e'] 24) := ⟨_, rfl⟩
 obtain ⟨hB0, hWs, bi, bo⟩ := two_box2 hW
 have HB : Below W.heap.size W W := Below.refl _ _
 obtain ⟨x, hx⟩ : ∃ x, x = decide (b = b') := ⟨_, rfl⟩
 obtain ⟨y, hy⟩ : ∃ y, y = decide (m = m') := ⟨_, rfl⟩
 have hE : Hid (likeA b m b' m' = (x && y)) := by show _ = _; unfold likeA; rw [hx, hy]
 have c1 : Calls Tryz.prog 57 #[.slice a n c, .slice d k e] W fun e w' => e = .returned (.bool x) ∧ Below W.heap.size W w' := by
  rw [hn, hk, hx]; exact same_any a d c e b b' W (hB.below hB0) (hD.below hB0)
 have c2 : ∀ V, Below W.heap.size W V → Calls Tryz.prog 57 #[.slice a' n' c', .slice d' k' e'] V fun e w' => e = .returned (.bool y) ∧ Below V.heap.size V w' := by
  intro V hV; rw [hn', hk', hy]; exact same_any a' d' c' e' m m' V (hB'.below (Below.tr hB0 hV)) (hD'.below (Below.tr hB0 hV))
 rw [hW] at c1
 have t1 : True := trivial
 clear hn hn' hk hk' hB hB' hD hD' hx hy
 cases x with
 | false =>
  go_enter Tryz.func34, Tryz.ntmps34
  go_wp2_with (go_at_call 57; refine c1.mono ?_; rintro e w1 ⟨rfl, hb⟩; rw [← hW] at hb)
  go_ret
  exact ⟨ret_bool hE.out.symm, Below.tr hB0 hb⟩
 | true =>
  go_enter Tryz.func34, Tryz.ntmps34
  go_wp2_with (first
   | (go_at_call 57; have _t := t1; refine c1.mono ?_; rintro e w1 ⟨rfl, hb⟩; rw [← hW] at hb; clear t1; replace HB := Below.tr HB hb; obtain ⟨⟨q0, q1⟩, -, -⟩ := bi.below hb; obtain ⟨⟨r0, r1⟩, -, -⟩ := bo.below hb; clear hb)
   | (go_at_call 57; refine (c2 _ HB).mono ?_; rintro e w2 ⟨rfl, hb⟩; replace HB := Below.tr HB hb; clear hb))
  go_ret
  exact ⟨ret_bool hE.out.symm, Below.tr hB0 HB⟩
end Go.Proofs.YtaecfbfcjaailaaGreat
namespace Go.Proofs.YtaecfbfcjaailaaGreat
namespace Plain
def rightW (bs ns : List Bool) (ps : List ByteArray) (root gen : Int) : Bool :=
 rightA bs ns && decide (ps.length = ns.length) && decide (1 ≤ gen) && decide (gen ≤ 1099511627776) && ps.all (fun s => decide (s.size ≤ 4096)) && (decide (root = 0) || (decide (10 ≤ root) && decide (root < ns.length)))
end Plain
open Go.RowKit Plain
set_option linter.unusedVariables false
theorem readB_few (s : ByteArray) : (readB s).size ≤ 4096 := by
 unfold readB
 by_cases h : readE s = 0
 ·
  rw [if_pos h]
  have hs : s.size ≤ 4096 := by
   by_cases hs : s.size ≤ 4096
   ·
    exact hs
   ·
    rw [readE, if_neg hs] at h; omega
  unfold fB
  rw [ByteArray.size_extract, fullS_size hs]
  omega
 ·
  rw [if_neg h]
  exact Nat.zero_le _
def pageN (s : ByteArray) (gen : Int) (root : Bool) : Option NodeS :=
 if readE s = 0 ∧ readG s ≤ gen ∧ gE (readK s) (readB s) = 0 ∧ rightN (gN (readK s) (readB s)).1 (gN (readK s) (readB s)).2.1 (gN (readK s) (readB s)).2.2.1 (gN (readK s) (readB s)).2.2.2 root = true then some (gN (readK s) (readB s)) else none
def holdsS (ns : List Bool) (ps : List ByteArray) (gen : Int) (block : Int) (root : Bool) : Option NodeS :=
 if 10 ≤ block ∧ block < ns.length ∧ block < ps.length ∧ ns.getD block.toNat false = true then pageN (ps.getD block.toNat ⟨#[]⟩) gen root else none
def HoldsC (w : World) (x : Ending) (w' : World) : Option NodeS → Prop
 | none => x = .returned (.tuple #[.agg #[.bool false, .slice none 0 0, .slice none 0 0, .slice none 0 0], .bool false]) ∧ Below w.heap.size w w'
 | some nd => ∃ k1 a1 d1 k2 a2 d2 k3 a3 d3, x = .returned (.tuple #[.agg #[.bool nd.1, .slice a1 k1 d1, .slice a2 k2 d2, .slice a3 k3 d3], .bool true]) ∧ k1 = nd.2.1.length ∧ k2 = nd.2.2.1.length ∧ k3 = nd.2.2.2.length ∧ IsS w' a1 d1 nd.2.1 ∧ IsS w' a2 d2 nd.2.2.1 ∧ IsI w' a3 d3 nd.2.2.2 ∧ From w.heap.size a1 ∧ From w.heap.size a2 ∧ From w.heap.size a3 ∧ Below w.heap.size w w'
set_option maxRecDepth 20000 in
set_option maxHeartbeats 4000000 in
theorem holds_any (a a' b : Option Addr) (n c n' c' p f : Nat) (ns : List Bool) (ps : List ByteArray) (root gen block : Int) (rt : Bool) (w : World) (hn' : n' = ns.length) (hp : p = ps.length) (hB' : IsB w a' c' ns) (hP : IsS w b f ps) :
  Calls Tryz.prog 36 #[.agg #[.slice a n c, .slice a' n' c', .slice b p f, .int .i64 root, .int .i64 gen], .int .i64 block, .bool rt] w fun x w' => HoldsC w x w' (holdsS ns ps gen block rt) := by
 obtain ⟨W, hW⟩ : ∃ W, W = (w.alloc (.cells #[.slice a n c, .slice a' n' c', .slice b p f, .int .i64 root, .int .i64 gen] 27)).alloc (.cells #[.bool false, .slice none 0 0, .slice none 0 0, .slice none 0 0] 76) := ⟨_, rfl⟩
 have BW : WoodBox W w.heap.size (.slice a n c) (.slice a' n' c') (.slice b p f) (.int .i64 root) (.int .i64 gen) := by rw [hW]; exact (woodBox_new _ _ _ _ _ _ _ rfl).below ((Below.refl _ _).alloc (Nat.le_refl _) _)
 have BR : Box4 W (w.heap.size + 1) (.bool false) (.slice none 0 0) (.slice none 0 0) (.slice none 0 0) := by rw [hW]; exact box4_new _ _ _ _ _ _ (by simp)
 have HB : Below w.heap.size w W := by rw [hW]; exact ((Below.refl _ _).alloc (Nat.le_refl _) _).alloc (by simp) _
 have hle : w.heap.size ≤ w.heap.size + 1 := by omega
 have mn : n' ≤ 9223372036854775807 := by rw [hn']; exact Nat.le_trans hB'.1 hB'.2.1
 have mp : p ≤ 9223372036854775807 := by rw [hp]; exact Nat.le_trans hP.1 hP.2.1
 obtain ⟨O, hO'⟩ : ∃ O, O = holdsS ns ps gen block rt := ⟨_, rfl⟩
 rw [← hO']
 obtain ⟨⟨r0, r1, r2, r3⟩, f0, f1, f2, f3⟩ := id (hW ▸ BR)
 obtain ⟨x0, x1, x2, x3, x4⟩ := id (hW ▸ BW)
 by_cases hin : 10 ≤ block ∧ block < ns.length ∧ block < ps.length ∧ ns.getD block.toNat false = true
 ·
  have hO1 : O = pageN (ps.getD block.toNat ⟨#[]⟩) gen rt := by rw [hO']; unfold holdsS; rw [if_pos hin]
  obtain ⟨h10, hl1, hl2, hnow⟩ := hin
  obtain ⟨i, rfl⟩ : ∃ i : Nat, block = i := ⟨block.toNat, by omega⟩
  simp only [Int.toNat_natCast] at hnow hO1
  have hi1 : i < ns.length := by omega
  have hi2 : i < ps.length := by omega
  have hgn : ns[i]? = some true := by rw [List.getD_eq_getElem?_getD, List.getElem?_eq_getElem hi1] at hnow; rw [List.getElem?_eq_getElem hi1]; exact congrArg some hnow
  obtain ⟨s, hs⟩ : ∃ s, ps[i]? = some s := ⟨_, List.getElem?_eq_getElem hi2⟩
  rw [List.getD_eq_getElem?_getD, hs] at hO1
  obtain ⟨b1, o1, rfl, hlb1, hc1⟩ := hB'.2.2 i true hgn
  obtain ⟨b2, o2, rfl, hlb2, hc2, hss⟩ := hP.2.2 i s hs
  have z1 := cell_below HB hc1
  have z2 := cell_below HB hc2
  rw [hW] at z1 z2
  have k1 : ¬ (i : Int) < 10 := by omega
  have k2 : ¬ (n' : Int) ≤ i := by omega
  have k3 : ¬ (p : Int) ≤ i := by omega
  have k4 : (i : Int) < n' := by omega
  have k5 : (i : Int) < p := by omega
  have cP := fun V => refPageGet_any s V hss
  have hrBs : (readB s).size ≤ maxLen := Nat.le_trans (readB_few s) (by unfold maxLen; omega)
  have cG := fun V => refNodeGet_any (readK s) (readB s) V hrBs
  have hO : O = pageN s gen rt := hO1
  unfold pageN at hO
  clear hO1 hO' hn' hp hB' hP h10 hl1 hl2 hnow hi1 hi2 hgn hs hlb1 hlb2 hc1 hc2 hss hrBs
  obtain ⟨rE, hrE⟩ : ∃ x, x = readE s := ⟨_, rfl⟩
  obtain ⟨rK, hrK⟩ : ∃ x, x = readK s := ⟨_, rfl⟩
  obtain ⟨rG, hrG⟩ : ∃ x, x = readG s := ⟨_, rfl⟩
  obtain ⟨rB, hrB⟩ : ∃ x, x = readB s := ⟨_, rfl⟩
  rw [← hrE, ← hrK, ← hrG, ← hrB] at hO
  rw [← hrE, ← hrK, ← hrG, ← hrB] at cP
  rw [← hrK, ← hrB] at cG
  clear hrE hrK hrG hrB
  obtain ⟨nE, hnE⟩ : ∃ x, x = gE rK rB := ⟨_, rfl⟩
  obtain ⟨⟨nl, nk, nv, nc⟩, hnd⟩ : ∃ x, x = gN rK rB := ⟨_, rfl⟩
  rw [← hnE, ← hnd] at hO cG
  clear hnE hnd
  have cR : ∀ V a1 d1 k1 a2 d2 k2 a3 d3 k3, k1 = nk.length → k2 = nv.length → k3 = nc.length → IsS V a1 d1 nk → IsS V a2 d2 nv → IsI V a3 d3 nc → Calls Tryz.prog 59 #[.agg #[.bool nl, .slice a1 k1 d1, .slice a2 k2 d2, .slice a3 k3 d3], .bool rt] V fun e w' => e = .returned (.bool (rightN nl nk nv nc rt)) ∧ Below V.heap.size V w' := fun V a1 d1 k1 a2 d2 k2 a3 d3 k3 h1 h2 h3 i1 i2 i3 => refNodeRight_any nl a1 a2 a3 d1 d2 d3 k1 k2 k3 nk nv nc rt V h1 h2 h3 i1 i2 i3
  by_cases hE : rE = 0
  ·
   subst hE
   by_cases hG : rG ≤ gen
   ·
    have hG' : ¬ gen < rG := by omega
    by_cases hNE : nE = 0
    ·
     subst hNE
     cases hR : rightN nl nk nv nc rt with
     | true =>
      replace hO : O = some (nl, nk, nv, nc) := by rw [hO, if_pos ⟨rfl, hG, rfl, hR⟩]
      rw [hR] at cR
      clear hR hG
      go_enter Tryz.func36, Tryz.ntmps36
      go_wp2_with (first
       | (go_at_call 29; rw [← hW]; refine (cP _).mono ?_; rintro y w1 ⟨rfl, hb⟩; have hA : Below w1.heap.size w1 (w1.alloc (.cells #[.int .i64 rK, .int .i64 rG, .string rB] 63)) := (Below.refl _ _).alloc (Nat.le_refl _) _; have b3 := box3_new w1 (.int .i64 rK) (.int .i64 rG) (.string rB) 63; replace HB := Below.tr (Below.tr HB hb) hA; replace BR := (BR.below hb).below hA; replace BW := (BW.below hb).below hA; clear r0 r1 r2 r3 f0 f1 f2 f3 x0 x1 x2 x3 x4; obtain ⟨⟨r0, r1, r2, r3⟩, f0, f1, f2, f3⟩ := id BR; obtain ⟨x0, x1, x2, x3, x4⟩ := id BW; obtain ⟨⟨g0, g1, g2⟩, -⟩ := id b3; clear hb hA b3)
       | (go_at_call 58; refine (cG _).mono ?_; rintro y w2 ⟨k1, a1, d1, k2, a2, d2, k3, a3, d3, rfl, e1, e2, e3, i1, i2, i3, j1, j2, j3, hb⟩; have hA : Below w2.heap.size w2 (w2.alloc (.cells #[.bool nl, .slice a1 k1 d1, .slice a2 k2 d2, .slice a3 k3 d3] 76)) := (Below.refl _ _).alloc (Nat.le_refl _) _; have b4 := box4_new w2 (.bool nl) (.slice a1 k1 d1) (.slice a2 k2 d2) (.slice a3 k3 d3) 76 rfl; have hlo : w.heap.size + 2 ≤ w1.heap.size + 1 := (by have := BR.lt; simp at this; omega); replace HB := Below.tr (Below.tr HB hb) hA; replace BR := (BR.below hb).below hA; clear r0 r1 r2 r3 f0 f1 f2 f3 x0 x1 x2 x3 x4 g0 g1 g2 BW; obtain ⟨⟨r0, r1, r2, r3⟩, f0, f1, f2, f3⟩ := id BR; obtain ⟨⟨m0, m1, m2, m3⟩, -⟩ := id b4; have E : Hid (k1 = nk.length ∧ k2 = nv.length ∧ k3 = nc.length) := ⟨e1, e2, e3⟩; have I : Hid (IsS (w2.alloc (.cells #[.bool nl, .slice a1 k1 d1, .slice a2 k2 d2, .slice a3 k3 d3] 76)) a1 d1 nk ∧ IsS (w2.alloc (.cells #[.bool nl, .slice a1 k1 d1, .slice a2 k2 d2, .slice a3 k3 d3] 76)) a2 d2 nv ∧ IsI (w2.alloc (.cells #[.bool nl, .slice a1 k1 d1, .slice a2 k2 d2, .slice a3 k3 d3] 76)) a3 d3 nc) := ⟨i1.below hA, i2.below hA, i3.below hA⟩; have J : Hid (From (w.heap.size + 2) a1 ∧ From (w.heap.size + 2) a2 ∧ From (w.heap.size + 2) a3) := ⟨j1.mono (by simp; omega), j2.mono (by simp; omega), j3.mono (by simp; omega)⟩; clear hb hA hlo e1 e2 e3 i1 i2 i3 j1 j2 j3)
       | (go_at_call 59; refine (cR _ a1 d1 k1 a2 d2 k2 a3 d3 k3 E.out.1 E.out.2.1 E.out.2.2 I.out.1 I.out.2.1 I.out.2.2).mono ?_; rintro y w3 ⟨rfl, hb⟩; replace HB := Below.tr HB hb; replace BR := BR.below hb; replace b4 := b4.below hb; clear r0 r1 r2 r3 f0 f1 f2 f3 m0 m1 m2 m3; obtain ⟨⟨r0, r1, r2, r3⟩, f0, f1, f2, f3⟩ := id BR; obtain ⟨⟨m0, m1, m2, m3⟩, -⟩ := id b4; replace I : Hid (IsS w3 a1 d1 nk ∧ IsS w3 a2 d2 nv ∧ IsI w3 a3 d3 nc) := ⟨I.out.1.below hb, I.out.2.1.below hb, I.out.2.2.below hb⟩; clear hb))
      have T4 := turns_put4 w3 (w.heap.size + 1) (.bool nl) (.slice a1 k1 d1) (.slice a2 k2 d2) (.slice a3 k3 d3)
      obtain ⟨j1, j2, j3⟩ := J.out
      refine bodyPost_ret (v := .tuple #[.agg #[.bool nl, .slice a1 k1 d1, .slice a2 k2 d2, .slice a3 k3 d3], .bool true]) (by simp [results, Tryz.results36, go_sem, r0, r1, r2, r3]) rfl ?_
      rw [hO]
      exact ⟨k1, a1, d1, k2, a2, d2, k3, a3, d3, rfl, E.out.1, E.out.2.1, E.out.2.2, I.out.1.turns T4 (fun x hx e => by have := j1 x hx; omega), I.out.2.1.turns T4 (fun x hx e => by have := j2 x hx; omega), I.out.2.2.turns T4 (fun x hx e => by have := j3 x hx; omega), j1.mono (by omega), j2.mono (by omega), j3.mono (by omega), below_put4 HB hle _ _ _ _⟩
     | false =>
      replace hO : O = none := by rw [hO, if_neg (fun h => by rw [hR] at h; exact absurd h.2.2.2 (by decide))]
      rw [hR] at cR
      clear hR hG
      go_enter Tryz.func36, Tryz.ntmps36
      go_wp2_with (first
       | (go_at_call 29; rw [← hW]; refine (cP _).mono ?_; rintro y w1 ⟨rfl, hb⟩; have hA : Below w1.heap.size w1 (w1.alloc (.cells #[.int .i64 rK, .int .i64 rG, .string rB] 63)) := (Below.refl _ _).alloc (Nat.le_refl _) _; have b3 := box3_new w1 (.int .i64 rK) (.int .i64 rG) (.string rB) 63; replace HB := Below.tr (Below.tr HB hb) hA; replace BR := (BR.below hb).below hA; replace BW := (BW.below hb).below hA; clear r0 r1 r2 r3 f0 f1 f2 f3 x0 x1 x2 x3 x4; obtain ⟨⟨r0, r1, r2, r3⟩, f0, f1, f2, f3⟩ := id BR; obtain ⟨x0, x1, x2, x3, x4⟩ := id BW; obtain ⟨⟨g0, g1, g2⟩, -⟩ := id b3; clear hb hA b3)
       | (go_at_call 58; refine (cG _).mono ?_; rintro y w2 ⟨k1, a1, d1, k2, a2, d2, k3, a3, d3, rfl, e1, e2, e3, i1, i2, i3, j1, j2, j3, hb⟩; have hA : Below w2.heap.size w2 (w2.alloc (.cells #[.bool nl, .slice a1 k1 d1, .slice a2 k2 d2, .slice a3 k3 d3] 76)) := (Below.refl _ _).alloc (Nat.le_refl _) _; have b4 := box4_new w2 (.bool nl) (.slice a1 k1 d1) (.slice a2 k2 d2) (.slice a3 k3 d3) 76 rfl; have hlo : w.heap.size + 2 ≤ w1.heap.size + 1 := (by have := BR.lt; simp at this; omega); replace HB := Below.tr (Below.tr HB hb) hA; replace BR := (BR.below hb).below hA; clear r0 r1 r2 r3 f0 f1 f2 f3 x0 x1 x2 x3 x4 g0 g1 g2 BW; obtain ⟨⟨r0, r1, r2, r3⟩, f0, f1, f2, f3⟩ := id BR; obtain ⟨⟨m0, m1, m2, m3⟩, -⟩ := id b4; have E : Hid (k1 = nk.length ∧ k2 = nv.length ∧ k3 = nc.length) := ⟨e1, e2, e3⟩; have I : Hid (IsS (w2.alloc (.cells #[.bool nl, .slice a1 k1 d1, .slice a2 k2 d2, .slice a3 k3 d3] 76)) a1 d1 nk ∧ IsS (w2.alloc (.cells #[.bool nl, .slice a1 k1 d1, .slice a2 k2 d2, .slice a3 k3 d3] 76)) a2 d2 nv ∧ IsI (w2.alloc (.cells #[.bool nl, .slice a1 k1 d1, .slice a2 k2 d2, .slice a3 k3 d3] 76)) a3 d3 nc) := ⟨i1.below hA, i2.below hA, i3.below hA⟩; have J : Hid (From (w.heap.size + 2) a1 ∧ From (w.heap.size + 2) a2 ∧ From (w.heap.size + 2) a3) := ⟨j1.mono (by simp; omega), j2.mono (by simp; omega), j3.mono (by simp; omega)⟩; clear hb hA hlo e1 e2 e3 i1 i2 i3 j1 j2 j3)
       | (go_at_call 59; refine (cR _ a1 d1 k1 a2 d2 k2 a3 d3 k3 E.out.1 E.out.2.1 E.out.2.2 I.out.1 I.out.2.1 I.out.2.2).mono ?_; rintro y w3 ⟨rfl, hb⟩; replace HB := Below.tr HB hb; replace BR := BR.below hb; replace b4 := b4.below hb; clear r0 r1 r2 r3 f0 f1 f2 f3 m0 m1 m2 m3; obtain ⟨⟨r0, r1, r2, r3⟩, f0, f1, f2, f3⟩ := id BR; obtain ⟨⟨m0, m1, m2, m3⟩, -⟩ := id b4; replace I : Hid (IsS w3 a1 d1 nk ∧ IsS w3 a2 d2 nv ∧ IsI w3 a3 d3 nc) := ⟨I.out.1.below hb, I.out.2.1.below hb, I.out.2.2.below hb⟩; clear hb))
      refine bodyPost_ret (v := .tuple #[.agg #[.bool false, .slice none 0 0, .slice none 0 0, .slice none 0 0], .bool false]) (by simp [results, Tryz.results36, go_sem, r0, r1, r2, r3]) rfl ?_
      rw [hO]
      exact ⟨rfl, below_put4 HB hle _ _ _ _⟩
    ·
     replace hO : O = none := by rw [hO, if_neg (fun h => hNE h.2.2.1)]
     clear hG
     go_enter Tryz.func36, Tryz.ntmps36
     go_wp2_with (first
      | (go_at_call 29; rw [← hW]; refine (cP _).mono ?_; rintro y w1 ⟨rfl, hb⟩; have hA : Below w1.heap.size w1 (w1.alloc (.cells #[.int .i64 rK, .int .i64 rG, .string rB] 63)) := (Below.refl _ _).alloc (Nat.le_refl _) _; have b3 := box3_new w1 (.int .i64 rK) (.int .i64 rG) (.string rB) 63; replace HB := Below.tr (Below.tr HB hb) hA; replace BR := (BR.below hb).below hA; replace BW := (BW.below hb).below hA; clear r0 r1 r2 r3 f0 f1 f2 f3 x0 x1 x2 x3 x4; obtain ⟨⟨r0, r1, r2, r3⟩, f0, f1, f2, f3⟩ := id BR; obtain ⟨x0, x1, x2, x3, x4⟩ := id BW; obtain ⟨⟨g0, g1, g2⟩, -⟩ := id b3; clear hb hA b3)
      | (go_at_call 58; refine (cG _).mono ?_; rintro y w2 ⟨k1, a1, d1, k2, a2, d2, k3, a3, d3, rfl, e1, e2, e3, i1, i2, i3, j1, j2, j3, hb⟩; have hA : Below w2.heap.size w2 (w2.alloc (.cells #[.bool nl, .slice a1 k1 d1, .slice a2 k2 d2, .slice a3 k3 d3] 76)) := (Below.refl _ _).alloc (Nat.le_refl _) _; have b4 := box4_new w2 (.bool nl) (.slice a1 k1 d1) (.slice a2 k2 d2) (.slice a3 k3 d3) 76 rfl; have hlo : w.heap.size + 2 ≤ w1.heap.size + 1 := (by have := BR.lt; simp at this; omega); replace HB := Below.tr (Below.tr HB hb) hA; replace BR := (BR.below hb).below hA; clear r0 r1 r2 r3 f0 f1 f2 f3 x0 x1 x2 x3 x4 g0 g1 g2 BW; obtain ⟨⟨r0, r1, r2, r3⟩, f0, f1, f2, f3⟩ := id BR; obtain ⟨⟨m0, m1, m2, m3⟩, -⟩ := id b4; have E : Hid (k1 = nk.length ∧ k2 = nv.length ∧ k3 = nc.length) := ⟨e1, e2, e3⟩; have I : Hid (IsS (w2.alloc (.cells #[.bool nl, .slice a1 k1 d1, .slice a2 k2 d2, .slice a3 k3 d3] 76)) a1 d1 nk ∧ IsS (w2.alloc (.cells #[.bool nl, .slice a1 k1 d1, .slice a2 k2 d2, .slice a3 k3 d3] 76)) a2 d2 nv ∧ IsI (w2.alloc (.cells #[.bool nl, .slice a1 k1 d1, .slice a2 k2 d2, .slice a3 k3 d3] 76)) a3 d3 nc) := ⟨i1.below hA, i2.below hA, i3.below hA⟩; have J : Hid (From (w.heap.size + 2) a1 ∧ From (w.heap.size + 2) a2 ∧ From (w.heap.size + 2) a3) := ⟨j1.mono (by simp; omega), j2.mono (by simp; omega), j3.mono (by simp; omega)⟩; clear hb hA hlo e1 e2 e3 i1 i2 i3 j1 j2 j3))
     refine bodyPost_ret (v := .tuple #[.agg #[.bool false, .slice none 0 0, .slice none 0 0, .slice none 0 0], .bool false]) (by simp [results, Tryz.results36, go_sem, r0, r1, r2, r3]) rfl ?_
     rw [hO]
     exact ⟨rfl, below_put4 HB hle _ _ _ _⟩
   ·
    have hG' : gen < rG := by omega
    replace hO : O = none := by rw [hO, if_neg (fun h => hG h.2.1)]
    clear hG
    go_enter Tryz.func36, Tryz.ntmps36
    go_wp2_with (go_at_call 29; rw [← hW]; refine (cP _).mono ?_; rintro y w1 ⟨rfl, hb⟩; have hA : Below w1.heap.size w1 (w1.alloc (.cells #[.int .i64 rK, .int .i64 rG, .string rB] 63)) := (Below.refl _ _).alloc (Nat.le_refl _) _; have b3 := box3_new w1 (.int .i64 rK) (.int .i64 rG) (.string rB) 63; replace HB := Below.tr (Below.tr HB hb) hA; replace BR := (BR.below hb).below hA; replace BW := (BW.below hb).below hA; clear r0 r1 r2 r3 f0 f1 f2 f3 x0 x1 x2 x3 x4; obtain ⟨⟨r0, r1, r2, r3⟩, f0, f1, f2, f3⟩ := id BR; obtain ⟨x0, x1, x2, x3, x4⟩ := id BW; obtain ⟨⟨g0, g1, g2⟩, -⟩ := id b3; clear hb hA b3)
    refine bodyPost_ret (v := .tuple #[.agg #[.bool false, .slice none 0 0, .slice none 0 0, .slice none 0 0], .bool false]) (by simp [results, Tryz.results36, go_sem, r0, r1, r2, r3]) rfl ?_
    rw [hO]
    exact ⟨rfl, below_put4 HB hle _ _ _ _⟩
  ·
   replace hO : O = none := by rw [hO, if_neg (fun h => hE h.1)]
   go_enter Tryz.func36, Tryz.ntmps36
   go_wp2_with (go_at_call 29; rw [← hW]; refine (cP _).mono ?_; rintro y w1 ⟨rfl, hb⟩; have hA : Below w1.heap.size w1 (w1.alloc (.cells #[.int .i64 rK, .int .i64 rG, .string rB] 63)) := (Below.refl _ _).alloc (Nat.le_refl _) _; have b3 := box3_new w1 (.int .i64 rK) (.int .i64 rG) (.string rB) 63; replace HB := Below.tr (Below.tr HB hb) hA; replace BR := (BR.below hb).below hA; replace BW := (BW.below hb).below hA; clear r0 r1 r2 r3 f0 f1 f2 f3 x0 x1 x2 x3 x4; obtain ⟨⟨r0, r1, r2, r3⟩, f0, f1, f2, f3⟩ := id BR; obtain ⟨x0, x1, x2, x3, x4⟩ := id BW; obtain ⟨⟨g0, g1, g2⟩, -⟩ := id b3; clear hb hA b3)
   refine bodyPost_ret (v := .tuple #[.agg #[.bool false, .slice none 0 0, .slice none 0 0, .slice none 0 0], .bool false]) (by simp [results, Tryz.results36, go_sem, r0, r1, r2, r3]) rfl ?_
   rw [hO]
   exact ⟨rfl, below_put4 HB hle _ _ _ _⟩
 ·
  have hO : O = none := by rw [hO']; unfold holdsS; rw [if_neg hin]
  clear hO'
  by_cases h10 : block < 10
  ·
   clear hin hn' hp hB' hP
   go_enter Tryz.func36, Tryz.ntmps36
   go_wp2
   refine bodyPost_ret (v := .tuple #[.agg #[.bool false, .slice none 0 0, .slice none 0 0, .slice none 0 0], .bool false]) (by simp [results, Tryz.results36, go_sem, r0, r1, r2, r3]) rfl ?_
   rw [hW] at HB
   first
    | exact ⟨rfl, HB⟩
    | (rw [hO]; exact ⟨rfl, HB⟩)
  ·
   by_cases hl1 : block < n'
   ·
    have hl1' : ¬ (n' : Int) ≤ block := by omega
    by_cases hl2 : block < p
    ·
     have hl2' : ¬ (p : Int) ≤ block := by omega
     obtain ⟨i, rfl⟩ : ∃ i : Nat, block = i := ⟨block.toNat, by omega⟩
     have hi1 : i < ns.length := by omega
     have hgn : ns[i]? = some false := by
      rw [List.getElem?_eq_getElem hi1]
      refine congrArg some (Bool.eq_false_iff.2 fun h => hin ⟨by omega, by omega, by omega, ?_⟩)
      rw [Int.toNat_natCast, List.getD_eq_getElem?_getD, List.getElem?_eq_getElem hi1]
      exact h
     obtain ⟨b1, o1, rfl, hlb1, hc1⟩ := hB'.2.2 i false hgn
     have z1 := cell_below HB hc1
     rw [hW] at z1
     clear hin hn' hp hB' hP hgn hi1 hc1 hlb1
     go_enter Tryz.func36, Tryz.ntmps36
     go_wp2
     refine bodyPost_ret (v := .tuple #[.agg #[.bool false, .slice none 0 0, .slice none 0 0, .slice none 0 0], .bool false]) (by simp [results, Tryz.results36, go_sem, r0, r1, r2, r3]) rfl ?_
     rw [hW] at HB
     first
      | exact ⟨rfl, HB⟩
      | (rw [hO]; exact ⟨rfl, HB⟩)
    ·
     have hl2' : (p : Int) ≤ block := by omega
     clear hin hn' hp hB' hP
     go_enter Tryz.func36, Tryz.ntmps36
     go_wp2
     refine bodyPost_ret (v := .tuple #[.agg #[.bool false, .slice none 0 0, .slice none 0 0, .slice none 0 0], .bool false]) (by simp [results, Tryz.results36, go_sem, r0, r1, r2, r3]) rfl ?_
     rw [hW] at HB
     first
      | exact ⟨rfl, HB⟩
      | (rw [hO]; exact ⟨rfl, HB⟩)
   ·
    have hl1' : (n' : Int) ≤ block := by omega
    clear hin hn' hp hB' hP
    go_enter Tryz.func36, Tryz.ntmps36
    go_wp2
    refine bodyPost_ret (v := .tuple #[.agg #[.bool false, .slice none 0 0, .slice none 0 0, .slice none 0 0], .bool false]) (by simp [results, Tryz.results36, go_sem, r0, r1, r2, r3]) rfl ?_
    rw [hW] at HB
    first
     | exact ⟨rfl, HB⟩
     | (rw [hO]; exact ⟨rfl, HB⟩)
end Go.Proofs.YtaecfbfcjaailaaGreat
namespace Go.Proofs.YtaecfbfcjaailaaGreat
open Go.RowKit Plain
set_option linter.unusedVariables false
theorem all_more {α : Type} {f : α → Bool} {xs : List α} {j : Nat} {x : α} (hx : xs[j]? = some x) : (xs.take (j + 1)).all f = ((xs.take j).all f && f x) := by
 rw [List.take_add_one, hx]
 simp
theorem holds_right {ns : List Bool} {ps : List ByteArray} {gen block : Int} {rt : Bool} {nd : NodeS} (h : holdsS ns ps gen block rt = some nd) : rightN nd.1 nd.2.1 nd.2.2.1 nd.2.2.2 rt = true := by
 unfold holdsS at h
 split at h
 ·
  unfold pageN at h
  split at h
  ·
   rename_i hh
   cases h
   exact hh.2.2.2
  ·
   cases h
 ·
  cases h
theorem holds_len {ns : List Bool} {ps : List ByteArray} {gen : Int} : ∀ b r (nd : NodeS), holdsS ns ps gen b r = some nd → nd.2.1.length ≤ 9 ∧ nd.2.2.2.length ≤ 10 ∧ (nd.1 = true → nd.2.2.1.length = nd.2.1.length) ∧ (nd.1 = false → nd.2.2.2.length = nd.2.1.length + 1) := by
 intro b r nd h
 obtain ⟨l, ks, vs, cs⟩ := nd
 have hs : standsN l ks vs cs = true := (rightN_iff.1 (holds_right h)).1
 obtain ⟨h9, _, _, _, _, hsh⟩ := standsN_iff.1 hs
 cases l with
 | true =>
  have := shape_leaf.1 hsh
  refine ⟨h9, ?_, fun _ => ?_, fun e => Bool.noConfusion e⟩
  ·
   show cs.length ≤ 10; omega
  ·
   show vs.length = ks.length; omega
 | false =>
  have := shape_inner.1 hsh
  refine ⟨h9, ?_, fun e => Bool.noConfusion e, fun _ => ?_⟩
  ·
   show cs.length ≤ 10; omega
  ·
   show cs.length = ks.length + 1; omega
def treeS (ns : List Bool) (ps : List ByteArray) (root gen : Int) : TreeS := if root = 0 then TreeS.none else belowS (holdsS ns ps gen) 8 TreeS.none root ⟨#[]⟩ ⟨#[]⟩
set_option maxRecDepth 20000 in
set_option maxHeartbeats 2000000 in
theorem tree_any (a a' b : Option Addr) (n c n' c' p f : Nat) (ns : List Bool) (ps : List ByteArray) (root gen : Int) (w : World) (hn' : n' = ns.length) (hp : p = ps.length) (hB' : IsB w a' c' ns) (hP : IsS w b f ps) :
  Calls Tryz.prog 15 #[.agg #[.slice a n c, .slice a' n' c', .slice b p f, .int .i64 root, .int .i64 gen]] w fun x w' => ∃ u1 u2, x = .returned (.pointer (some ⟨w.heap.size + 1, 0, none⟩)) ∧ TreeAt w' (w.heap.size + 1) (w.heap.size + 2) u1 u2 (treeS ns ps root gen) ∧ Below w.heap.size w w' := by
 obtain ⟨W, hW⟩ : ∃ W, W = (w.alloc (.cells #[.slice a n c, .slice a' n' c', .slice b p f, .int .i64 root, .int .i64 gen] 27)).alloc (.cells #[.slice none 0 0, .slice none 0 0, .int .i64 0, .bool false] 40) := ⟨_, rfl⟩
 have HB : Below w.heap.size w W := by rw [hW]; exact ((Below.refl _ _).alloc (Nat.le_refl _) _).alloc (by simp) _
 have BW : WoodBox W w.heap.size (.slice a n c) (.slice a' n' c') (.slice b p f) (.int .i64 root) (.int .i64 gen) := by rw [hW]; exact (woodBox_new _ _ _ _ _ _ _ rfl).below ((Below.refl _ _).alloc (Nat.le_refl _) _)
 have T0 : TreeAt W (w.heap.size + 1) (w.heap.size + 2) (.slice none 0 0) (.slice none 0 0) TreeS.none := by
  rw [hW]
  exact ⟨box4_new _ _ _ _ _ _ (by simp), ⟨rfl, .inl ⟨rfl, rfl⟩⟩, ⟨rfl, .inl ⟨rfl, rfl⟩⟩, apart_nil _ _, by omega, by simp⟩
 have hle : w.heap.size ≤ w.heap.size + 1 := by omega
 have cB : ∀ V, Below w.heap.size w V → TreeAt V (w.heap.size + 1) (w.heap.size + 2) (.slice none 0 0) (.slice none 0 0) TreeS.none → Calls Tryz.prog 26 #[.pointer (some ⟨w.heap.size + 1, 0, none⟩), .agg #[.slice a n c, .slice a' n' c', .slice b p f, .int .i64 root, .int .i64 gen], .int .i64 root, .int .i64 1, .string ⟨#[]⟩, .string ⟨#[]⟩] V fun e V' => e = .returned (.tuple #[]) ∧ ∃ u1' u2', TreeAt V' (w.heap.size + 1) (w.heap.size + 2) u1' u2' (belowS (holdsS ns ps gen) 8 TreeS.none root ⟨#[]⟩ ⟨#[]⟩) ∧ Grows (w.heap.size + 1) (.slice none 0 0) (.slice none 0 0) V u1' u2' V' := fun V hV T =>
  below_any (w := w) (H := holdsS ns ps gen) (w.heap.size + 1) (w.heap.size + 2) a a' b n c n' c' p f root gen hle
   (fun V block r hb h => by
    have := holds_any a a' b n c n' c' p f ns ps root gen block r V hn' hp (hB'.below hb) (hP.below hb)
    rw [h] at this
    exact this)
   (fun V block r nd hb h => by
    have := holds_any a a' b n c n' c' p f ns ps root gen block r V hn' hp (hB'.below hb) (hP.below hb)
    rw [h] at this
    exact this)
   holds_len 8 (by decide) V _ _ TreeS.none root ⟨#[]⟩ ⟨#[]⟩ hV T (by decide) (by decide)
 obtain ⟨x0, x1, x2, x3, x4⟩ := id (hW ▸ BW)
 clear hn' hp hB' hP
 by_cases hr : root = 0
 ·
  have ht : treeS ns ps root gen = TreeS.none := by unfold treeS; rw [if_pos hr]
  rw [ht]
  subst hr
  clear ht cB
  go_enter Tryz.func15, Tryz.ntmps15
  go_wp2
  go_ret
  exact ⟨_, _, rfl, hW ▸ T0, hW ▸ HB⟩
 ·
  have ht : treeS ns ps root gen = belowS (holdsS ns ps gen) 8 TreeS.none root ⟨#[]⟩ ⟨#[]⟩ := by unfold treeS; rw [if_neg hr]
  rw [ht]
  clear ht
  go_enter Tryz.func15, Tryz.ntmps15
  go_wp2_with (go_at_call 26; rw [← hW]; refine (cB _ HB T0).mono ?_; rintro y w1 ⟨rfl, v1, v2, D, G⟩)
  have HB1 := Grows.low (S := 0) T0 G HB hle
  go_ret
  exact ⟨v1, v2, rfl, D, HB1⟩
set_option maxRecDepth 20000 in
set_option maxHeartbeats 2000000 in
theorem refRightW_any (a a' b : Option Addr) (n c n' c' p f : Nat) (bs ns : List Bool) (ps : List ByteArray) (root gen : Int) (w : World) (hn : n = bs.length) (hn' : n' = ns.length) (hp : p = ps.length) (hB : IsB w a c bs) (hB' : IsB w a' c' ns) (hP : IsS w b f ps) :
  Calls Tryz.prog 12 #[.agg #[.slice a n c, .slice a' n' c', .slice b p f, .int .i64 root, .int .i64 gen]] w fun e w' => e = .returned (.bool (rightW bs ns ps root gen)) ∧ Below w.heap.size w w' := by
 obtain ⟨W, hW⟩ : ∃ W, W = (w.alloc (.cells #[.slice a n c, .slice a' n' c', .slice b p f, .int .i64 root, .int .i64 gen] 27)).alloc (.cells #[.slice a n c, .slice a' n' c'] 24) := ⟨_, rfl⟩
 have HB : Below w.heap.size w W := by rw [hW]; exact ((Below.refl _ _).alloc (Nat.le_refl _) _).alloc (by simp) _
 have BW : WoodBox W w.heap.size (.slice a n c) (.slice a' n' c') (.slice b p f) (.int .i64 root) (.int .i64 gen) := by rw [hW]; exact (woodBox_new _ _ _ _ _ _ _ rfl).below ((Below.refl _ _).alloc (Nat.le_refl _) _)
 have cA := allocRefRight_any a a' c c' n n' bs ns W hn hn' (hB.below HB) (hB'.below HB)
 have mn : n' ≤ 9223372036854775807 := by rw [hn']; exact Nat.le_trans hB'.1 hB'.2.1
 have mp : p ≤ 9223372036854775807 := by rw [hp]; exact Nat.le_trans hP.1 hP.2.1
 obtain ⟨r, hr⟩ : ∃ r, r = rightW bs ns ps root gen := ⟨_, rfl⟩
 rw [← hr]
 unfold rightW at hr
 have EP : Hid (p = ps.length) := hp
 have EN : Hid (n' = ns.length) := hn'
 have RP : Hid (IsS w b f ps) := hP
 obtain ⟨x0, x1, x2, x3, x4⟩ := id (hW ▸ BW)
 clear hn hn' hp hB hB' hP
 cases hA : rightA bs ns with
 | false =>
  rw [hA] at hr cA
  replace hr : r = false := by rw [hr]; simp
  clear hA
  go_enter Tryz.func12, Tryz.ntmps12
  go_wp2_with (go_at_call 25; rw [← hW]; refine cA.mono ?_; rintro y w1 ⟨rfl, hb⟩; replace HB := Below.tr HB hb; replace BW := BW.below hb; clear x0 x1 x2 x3 x4; obtain ⟨x0, x1, x2, x3, x4⟩ := id BW; clear hb)
  go_ret
  exact ⟨by rw [hr]; rfl, HB⟩
 | true =>
  rw [hA] at hr cA
  clear hA
  by_cases h1 : p = n'
  ·
   by_cases h2 : 1 ≤ gen
   ·
    have h2' : ¬ gen < 1 := by omega
    by_cases h3 : gen ≤ 1099511627776
    ·
     have h3' : ¬ 1099511627776 < gen := by omega
     have hr1 : Hid (r = (ps.all (fun s => decide (s.size ≤ 4096)) && (decide (root = 0) || (decide (10 ≤ root) && decide (root < ns.length))))) := by
      show _ = _
      rw [hr, decide_eq_true (show ps.length = ns.length by rw [← EP.out, ← EN.out]; exact h1), decide_eq_true h2, decide_eq_true h3]
      rfl
     have h1' : ((p : Int) != n') = false := by simp [h1]
     clear hr h1
     go_enter Tryz.func12, Tryz.ntmps12
     go_wp2_with (go_at_call 25; rw [← hW]; refine cA.mono ?_; rintro y w1 ⟨rfl, hb⟩; replace HB := Below.tr HB hb; replace BW := BW.below hb; clear x0 x1 x2 x3 x4; obtain ⟨x0, x1, x2, x3, x4⟩ := id BW; clear hb)
     go_loop [39] (fun v => ∃ j : Nat, j ≤ p ∧ v = .int .i64 j ∧ (ps.take j).all (fun s => decide (s.size ≤ 4096)) = true) (fun v => p - (intOf v).toNat)
     case atStart => exact ⟨0, by omega, rfl, rfl⟩
     case round =>
      obtain ⟨j, hj, rfl, hA⟩ := hrel
      have HA : Hid ((ps.take j).all (fun s => decide (s.size ≤ 4096)) = true) := hA
      clear hA
      by_cases hlt : j < p
      ·
       have hlt' : (j : Int) < p := by omega
       obtain ⟨s, hs⟩ : ∃ x, Hid (ps[j]? = some x) := get_some (by rw [← EP.out]; exact hlt)
       obtain ⟨b1, o1, rfl, -, hc0, hss⟩ := RP.out.2.2 j s hs.out
       have hc := cell_below HB hc0
       clear hc0
       by_cases hsz : s.size ≤ 4096
       ·
        have hsz' : ¬ (4096 : Int) < s.size := by omega
        go_wp2
        go_round
        case rel => exact ⟨j + 1, by omega, by go_num, by rw [all_more hs.out, HA.out, decide_eq_true hsz]; rfl⟩
        case measure => simp [intOf]; omega
       ·
        have hsz' : (4096 : Int) < s.size := by omega
        have hrf : Hid (r = false) := by
         show _ = _
         rw [hr1.out, List.all_eq_false.2 ⟨s, List.mem_of_getElem? hs.out, by simpa using hsz⟩]
         rfl
        go_wp2
        go_ret
        exact ⟨by rw [hrf.out]; rfl, HB⟩
      ·
       obtain rfl : p = j := by omega
       have hj0 : ¬ (p : Int) < p := by omega
       have hall : ps.all (fun s => decide (s.size ≤ 4096)) = true := by
        have := HA.out
        rw [EP.out, List.take_length] at this
        exact this
       by_cases hr0 : root = 0
       ·
        have hrf : Hid (r = true) := by show _ = _; rw [hr1.out, hall, decide_eq_true hr0]; rfl
        clear hall
        subst hr0
        go_wp2
        go_ret
        exact ⟨by rw [hrf.out]; rfl, HB⟩
       ·
        have hr00 : (root == 0) = false := by simpa using hr0
        by_cases hr10 : 10 ≤ root
        ·
         have hr10' : ¬ root < 10 := by omega
         have hrf : Hid (r = decide (root < (n' : Int))) := by show _ = _; rw [hr1.out, hall, decide_eq_false hr0, decide_eq_true hr10, EN.out]; rfl
         clear hall
         go_wp2
         go_ret
         exact ⟨by rw [hrf.out]; rfl, HB⟩
        ·
         have hr10' : root < 10 := by omega
         have hrf : Hid (r = false) := by show _ = _; rw [hr1.out, hall, decide_eq_false hr0, decide_eq_false hr10]; rfl
         clear hall
         go_wp2
         go_ret
         exact ⟨by rw [hrf.out]; rfl, HB⟩
    ·
     have h3' : 1099511627776 < gen := by omega
     have h1' : ((p : Int) != n') = false := by simp [h1]
     replace hr : r = false := by rw [hr, decide_eq_false h3]; simp
     clear h1
     go_enter Tryz.func12, Tryz.ntmps12
     go_wp2_with (go_at_call 25; rw [← hW]; refine cA.mono ?_; rintro y w1 ⟨rfl, hb⟩; replace HB := Below.tr HB hb; replace BW := BW.below hb; clear x0 x1 x2 x3 x4; obtain ⟨x0, x1, x2, x3, x4⟩ := id BW; clear hb)
     go_ret
     exact ⟨by rw [hr]; rfl, HB⟩
   ·
    have h2' : gen < 1 := by omega
    have h1' : ((p : Int) != n') = false := by simp [h1]
    replace hr : r = false := by rw [hr, decide_eq_false h2]; simp
    clear h1
    go_enter Tryz.func12, Tryz.ntmps12
    go_wp2_with (go_at_call 25; rw [← hW]; refine cA.mono ?_; rintro y w1 ⟨rfl, hb⟩; replace HB := Below.tr HB hb; replace BW := BW.below hb; clear x0 x1 x2 x3 x4; obtain ⟨x0, x1, x2, x3, x4⟩ := id BW; clear hb)
    go_ret
    exact ⟨by rw [hr]; rfl, HB⟩
  ·
   have h1' : ((p : Int) != n') = true := by simp; omega
   replace hr : r = false := by rw [hr, decide_eq_false (show ¬ ps.length = ns.length by rw [← EP.out, ← EN.out]; exact h1)]; simp
   go_enter Tryz.func12, Tryz.ntmps12
   go_wp2_with (go_at_call 25; rw [← hW]; refine cA.mono ?_; rintro y w1 ⟨rfl, hb⟩; replace HB := Below.tr HB hb; replace BW := BW.below hb; clear x0 x1 x2 x3 x4; obtain ⟨x0, x1, x2, x3, x4⟩ := id BW; clear hb)
   go_ret
   exact ⟨by rw [hr]; rfl, HB⟩
set_option maxHeartbeats 400000 in
theorem number_any (n k : Int) (w : World) :
  Calls Tryz.prog 121 #[.int .i64 n, .int .i64 k] w fun e w' => e = .returned (.string (putS n k)) ∧ Below w.heap.size w w' := by
 go_enter Tryz.func121, Tryz.ntmps121
 go_wp2_with (go_at_call 126; refine (put_any n k _).mono ?_; rintro e w' ⟨rfl, hb⟩)
 go_ret
 exact ⟨rfl, hb⟩
set_option maxHeartbeats 400000 in
theorem nodeText_any (s : ByteArray) (w : World) (hs : s.size ≤ maxLen) :
  Calls Tryz.prog 140 #[.string s] w fun e w' => e = .returned (.string (textS s)) ∧ Below w.heap.size w w' := by
 go_enter Tryz.func140, Tryz.ntmps140
 go_wp2_with (go_at_call 127; refine (text_any s _ hs).mono ?_; rintro e w' ⟨rfl, hb⟩)
 go_ret
 exact ⟨rfl, hb⟩
theorem textS_le (s : ByteArray) : (textS s).size ≤ 65537 := by
 by_cases h : s.size ≤ 65535
 ·
  rw [textS_size h]; omega
 ·
  rw [textS, if_neg h]; simp [ByteArray.size]
theorem putS_le (n : Int) {k : Int} : (putS n k).size ≤ 65537 := by
 by_cases h : putOk n k = true
 ·
  have := putS_size h
  have := ((putOk_iff n k).1 h).2.1
  omega
 ·
  rw [putS_bad (by simpa using h)]; simp [ByteArray.size]
theorem cat_two_step (P : List ByteArray) (x y : ByteArray) : cat [cat P, x, y] = cat (P ++ [x, y]) := by
 rw [(cat_two_more P x y []).2.2]
 rw [show [cat P, x, y] = [cat P] ++ ([x] ++ [y]) by rfl, cat_append, cat_append, cat_one, cat_one, cat_one, ByteArray.append_assoc]
theorem leafP_next {ks vs : List ByteArray} {j : Nat} {k v : ByteArray} (hl : ks.length = vs.length) (hk : ks[j]? = some k) (hv : vs[j]? = some v) :
  cat [cat (leafP (ks.take j) (vs.take j)), textS k, textS v] = cat (leafP (ks.take (j + 1)) (vs.take (j + 1))) := by
 rw [take_at' hk, take_at' hv, leafP_snoc (by rw [List.length_take, List.length_take, hl])]
 exact cat_two_step _ _ _
theorem leafP_bound {ks vs : List ByteArray} (h : standsN true ks vs [] = true) (j : Nat) : (cat (leafP (ks.take j) (vs.take j))).size ≤ 2124 := by
 obtain ⟨h9, hk, _, hv, _, _⟩ := standsN_iff.1 h
 have := leafP_size (ks := ks.take j) (vs := vs.take j) (fun k hm => (hk k (List.mem_of_mem_take hm)).2) (fun v hm => hv v (List.mem_of_mem_take hm))
 have h2 : (ks.take j).length ≤ 9 := by rw [List.length_take]; omega
 omega
theorem leaf_one_eq {ks vs : List ByteArray} {cs : List Int} (h : standsN true ks vs cs = true) : cs = [] ∧ vs.length = ks.length := by
 obtain ⟨_, _, _, _, _, hs⟩ := standsN_iff.1 h
 obtain ⟨e1, e2⟩ := shape_leaf.1 hs
 exact ⟨List.length_eq_zero_iff.1 e2, e1⟩
theorem inner_one_eq {ks vs : List ByteArray} {cs : List Int} (h : standsN false ks vs cs = true) : vs = [] ∧ cs.length = ks.length + 1 ∧ 1 ≤ ks.length := by
 obtain ⟨_, _, _, _, _, hs⟩ := standsN_iff.1 h
 obtain ⟨e1, e2, e3⟩ := shape_inner.1 hs
 exact ⟨List.length_eq_zero_iff.1 e1, e3, e2⟩
set_option maxRecDepth 20000 in
set_option maxHeartbeats 2000000 in
theorem pairs_any (l : Bool) (a a' a'' : Option Addr) (c c' c'' n n' n'' : Nat) (ks vs : List ByteArray) (w : World) (hn : n = ks.length) (hn' : n' = vs.length) (hK : IsS w a c ks) (hV : IsS w a' c' vs) (hs : standsN true ks vs [] = true) :
  Calls Tryz.prog 123 #[.agg #[.bool l, .slice a n c, .slice a' n' c', .slice a'' n'' c'']] w fun e w' => e = .returned (.string (cat (leafP ks vs))) ∧ Below w.heap.size w w' := by
 obtain ⟨W, hW⟩ : ∃ W, W = w.alloc (.cells #[.bool l, .slice a n c, .slice a' n' c', .slice a'' n'' c''] 76) := ⟨_, rfl⟩
 have hB0 : Below w.heap.size w W := by rw [hW]; exact (Below.refl _ _).alloc (Nat.le_refl _) _
 have hX : Box4 W w.heap.size (.bool l) (.slice a n c) (.slice a' n' c') (.slice a'' n'' c'') := by rw [hW]; exact box4_new _ _ _ _ _ _ rfl
 have hm : n ≤ 9 := by rw [hn]; exact (standsN_iff.1 hs).1
 have HK : Hid (IsS w a c ks) := hK
 have HV : Hid (IsS w a' c' vs) := hV
 have EK : Hid (n = ks.length) := hn
 have hnn : n' = n := by rw [hn, hn']; exact (leaf_one_eq hs).2
 subst hnn
 have EV : Hid (n' = vs.length) := hn'
 have HB : Hid (∀ j, (cat (leafP (ks.take j) (vs.take j))).size ≤ 2124) := leafP_bound hs
 have HS : Hid (standsN true ks vs [] = true) := hs
 clear hn hn' hK hV hs
 obtain ⟨⟨q0, q1, q2, q3⟩, -⟩ := id hX
 go_enter Tryz.func123, Tryz.ntmps123
 go_wp2
 rw [← hW]
 clear hW
 go_loopw [3, 9] (fun s v wr => ∃ j : Nat, j ≤ n' ∧ v = .int .i64 j ∧ s = .string (cat (leafP (ks.take j) (vs.take j))) ∧ Below W.heap.size W wr) (fun _ v _ => n' - (intOf v).toNat)
 case atStart => exact ⟨0, by omega, rfl, by simp [leafP, cat], Below.refl _ _⟩
 case round =>
  obtain ⟨j, hj, rfl, rfl, hbel⟩ := hrel
  clear q0 q1 q2 q3
  replace hX := hX.below hbel
  replace hB0 := Below.tr hB0 hbel
  obtain ⟨⟨q0, q1, q2, q3⟩, -⟩ := id hX
  by_cases hlt : j < n'
  ·
   have hlt' : (j : Int) < n' := by omega
   obtain ⟨k, hk⟩ : ∃ x, Hid (ks[j]? = some x) := ⟨_, List.getElem?_eq_getElem (by rw [← EK.out]; exact hlt)⟩
   obtain ⟨v, hv⟩ : ∃ x, Hid (vs[j]? = some x) := ⟨_, List.getElem?_eq_getElem (by rw [← EV.out]; exact hlt)⟩
   obtain ⟨b, o, rfl, hlb, hc0, hxs⟩ := HK.out.2.2 j k hk.out
   obtain ⟨b', o', rfl, hlb', hc0', hxs'⟩ := HV.out.2.2 j v hv.out
   have hck := cell_below hB0 hc0
   have hcv := cell_below hB0 hc0'
   have cT : ∀ V, Calls Tryz.prog 140 #[.string k] V fun e w' => e = .returned (.string (textS k)) ∧ Below V.heap.size V w' := fun V => nodeText_any k V hxs
   have cU : ∀ V, Calls Tryz.prog 140 #[.string v] V fun e w' => e = .returned (.string (textS v)) ∧ Below V.heap.size V w' := fun V => nodeText_any v V hxs'
   have b1 : (textS k).size ≤ 65537 := textS_le k
   have b2 : (textS v).size ≤ 65537 := textS_le v
   have b3 := HB.out j
   have hN : Hid (cat [cat (leafP (ks.take j) (vs.take j)), textS k, textS v] = cat (leafP (ks.take (j + 1)) (vs.take (j + 1)))) := leafP_next (by rw [← EK.out, ← EV.out]) hk.out hv.out
   generalize cat (leafP (ks.take j) (vs.take j)) = s at b3 hN
   generalize textS k = tk at cT b1 hN
   generalize textS v = tv at cU b2 hN
   have cA : ∀ V, Calls Tryz.prog 122 #[.slice (some ⟨V.heap.size, 0, none⟩) 3 3] (V.alloc (.cells #[.string s, .string tk, .string tv] 9)) fun e w' => e = .returned (.string (cat [s, tk, tv])) ∧ Below V.heap.size V w' := fun V => all_three s tk tv V (by omega)
   clear hc0 hc0' hlb hlb' HB
   have tok1 : True := trivial
   have HB := Below.refl wr.heap.size wr
   go_wp2
   replace HB := HB.drew
   go_region_held3 (fun V => V.cell? ⟨w.heap.size, 2, none⟩ = some (.slice (some ⟨b', o', none⟩) n' c') ∧ V.cell? ⟨b', o' + j, none⟩ = some (.string v)) (first | exact ⟨q2, hcv⟩ | exact ⟨cell_alloc q2 _, cell_alloc hcv _⟩) (first
    | (go_at_call 140; have _t := tok1; refine (cT _).mono ?_; rintro e w1 ⟨rfl, hb⟩; replace q2 := cell_below hb q2; replace hcv := cell_below hb hcv; replace HB := Below.tr HB hb; clear hb tok1 _t)
    | (go_at_call 140; refine (cU _).mono ?_; rintro e w2 ⟨rfl, hb⟩; replace q2 := cell_below hb q2; replace hcv := cell_below hb hcv; replace HB := Below.tr HB hb; clear hb)
    | (go_at_call 122; refine (cA _).mono ?_; rintro e w3 ⟨rfl, hb⟩; replace q2 := cell_below hb q2; replace hcv := cell_below hb hcv; replace HB := Below.tr HB hb; clear hb))
   go_wp2
   go_roundw
   case rel => exact ⟨j + 1, by omega, by go_num, by rw [hN.out], Below.tr hbel HB⟩
   case measure => simp [intOf]; omega
  ·
   obtain rfl : j = n' := by omega
   have e1 : Hid (leafP (ks.take j) (vs.take j) = leafP ks vs) := by
    show _ = _
    rw [List.take_of_length_le (by rw [← EK.out]; exact Nat.le_refl _), List.take_of_length_le (by rw [← EV.out]; exact Nat.le_refl _)]
   go_wp2
   go_ret
   exact ⟨ret_str (by rw [e1.out]), hB0⟩
def kidS (ks : List ByteArray) (cs : List Int) (j : Nat) : ByteArray := cat (innP (ks.take j) (cs.take j) ++ [putS (cs.getD j 0) 2])
theorem kidS_next {ks : List ByteArray} {cs : List Int} {j : Nat} {k : ByteArray} {c d : Int} (hl : ks.length ≤ cs.length) (hk : ks[j]? = some k) (hc : cs[j]? = some c) (hd : cs[j + 1]? = some d) :
  cat [kidS ks cs j, textS k, putS d 2] = kidS ks cs (j + 1) := by
 unfold kidS
 rw [cat_two_step, take_at' hk, take_at' hc, innP_snoc (by rw [List.length_take, List.length_take]; have := (List.getElem?_eq_some_iff.1 hk).1; omega), List.getD_eq_getElem?_getD, hc, List.getD_eq_getElem?_getD, hd]
 simp
theorem kidS_bound {ks : List ByteArray} {cs : List Int} (h : standsN false ks [] cs = true) (j : Nat) (hj : j ≤ ks.length) : (kidS ks cs j).size ≤ 326 := by
 obtain ⟨h9, hk, _, _, hc, _⟩ := standsN_iff.1 h
 obtain ⟨_, hl, _⟩ := inner_one_eq h
 have bc : ∀ c ∈ cs, putOk c 2 = true := fun c hm => two_ok (by have := (hc c hm).1; omega) (by have := (hc c hm).2; omega)
 have h1 := innP_size (ks := ks.take j) (cs := cs.take j) (fun k hm => (hk k (List.mem_of_mem_take hm)).2) (fun v hm => bc v (List.mem_of_mem_take hm))
 have h2 : (ks.take j).length ≤ 9 := by rw [List.length_take]; omega
 obtain ⟨z, hz⟩ : ∃ z, cs[j]? = some z := ⟨_, List.getElem?_eq_getElem (by omega)⟩
 have h3 := putS_size (bc z (List.mem_of_getElem? hz))
 unfold kidS
 rw [cat_append, cat_one, ByteArray.size_append, List.getD_eq_getElem?_getD, hz]
 simp only [Option.getD_some]
 omega
set_option maxRecDepth 20000 in
set_option maxHeartbeats 2000000 in
theorem children_any (l : Bool) (a a' a'' : Option Addr) (c c' c'' n n' n'' : Nat) (ks : List ByteArray) (cs : List Int) (w : World) (hn : n = ks.length) (hn'' : n'' = cs.length) (hK : IsS w a c ks) (hC : IsI w a'' c'' cs) (hs : standsN false ks [] cs = true) :
  Calls Tryz.prog 124 #[.agg #[.bool l, .slice a n c, .slice a' n' c', .slice a'' n'' c'']] w fun e w' => e = .returned (.string (cat (innP ks cs ++ [putS (cs.getD ks.length 0) 2]))) ∧ Below w.heap.size w w' := by
 obtain ⟨W, hW⟩ : ∃ W, W = w.alloc (.cells #[.bool l, .slice a n c, .slice a' n' c', .slice a'' n'' c''] 76) := ⟨_, rfl⟩
 have hB0 : Below w.heap.size w W := by rw [hW]; exact (Below.refl _ _).alloc (Nat.le_refl _) _
 have hX : Box4 W w.heap.size (.bool l) (.slice a n c) (.slice a' n' c') (.slice a'' n'' c'') := by rw [hW]; exact box4_new _ _ _ _ _ _ rfl
 have hm : n ≤ 9 := by rw [hn]; exact (standsN_iff.1 hs).1
 have HK : Hid (IsS w a c ks) := hK
 have HC : Hid (IsI w a'' c'' cs) := hC
 have EK : Hid (n = ks.length) := hn
 have hnn : n'' = n + 1 := by rw [hn, hn'']; exact (inner_one_eq hs).2.1
 have EC : Hid (n + 1 = cs.length) := by show _ = _; rw [← hn'', hnn]
 subst hnn
 have HB : Hid (∀ j, j ≤ ks.length → (kidS ks cs j).size ≤ 326) := kidS_bound hs
 clear hn hn'' hK hC hs
 have hz0 : 0 < cs.length := by rw [← EC.out]; omega
 obtain ⟨z, hz⟩ : ∃ x, Hid (cs[0]? = some x) := ⟨cs[0], List.getElem?_eq_getElem (i := 0) hz0⟩
 clear hz0
 obtain ⟨b', o', rfl, hlb', hc0'⟩ := HC.out.2.2 0 z hz.out
 have hcz := cell_below hB0 hc0'
 rw [Nat.add_zero] at hcz
 have H0 : Hid (putS z 2 = kidS ks cs 0) := by show _ = _; unfold kidS; rw [List.getD_eq_getElem?_getD, hz.out]; simp [innP, cat_one]
 clear hc0' hlb'
 have cN : ∀ V, Calls Tryz.prog 121 #[.int .i64 z, .int .i64 2] V fun e w' => e = .returned (.string (putS z 2)) ∧ Below V.heap.size V w' := fun V => number_any z 2 V
 generalize putS z 2 = pz at cN H0
 obtain ⟨⟨q0, q1, q2, q3⟩, -⟩ := id hX
 have e1 : ((n + 1 : Nat) : Int) = (n : Int) + 1 := by omega
 have hcr := hcz
 rw [hW] at hcr
 go_enter Tryz.func124, Tryz.ntmps124
 go_wp2_with (go_at_call 121; rw [← hW]; refine (cN _).mono ?_; rintro e w1 ⟨rfl, hb⟩; replace hX := hX.below hb; replace hB0 := Below.tr hB0 hb; clear q0 q1 q2 q3 hb hcz hcr cN; obtain ⟨⟨q0, q1, q2, q3⟩, -⟩ := id hX)
 clear hW
 go_loopw [3, 14] (fun s v wr => ∃ j : Nat, j ≤ n ∧ v = .int .i64 j ∧ s = .string (kidS ks cs j) ∧ Below w1.heap.size w1 wr) (fun _ v _ => n - (intOf v).toNat)
 case atStart => exact ⟨0, by omega, rfl, by rw [H0.out], Below.refl _ _⟩
 case round =>
  obtain ⟨j, hj, rfl, rfl, hbel⟩ := hrel
  clear q0 q1 q2 q3
  replace hX := hX.below hbel
  replace hB0 := Below.tr hB0 hbel
  obtain ⟨⟨q0, q1, q2, q3⟩, -⟩ := id hX
  by_cases hlt : j < n
  ·
   have hlt' : (j : Int) < n := by omega
   obtain ⟨k, hk⟩ : ∃ x, Hid (ks[j]? = some x) := ⟨_, List.getElem?_eq_getElem (by rw [← EK.out]; exact hlt)⟩
   obtain ⟨y, hy⟩ : ∃ x, Hid (cs[j]? = some x) := ⟨_, List.getElem?_eq_getElem (by rw [← EC.out]; omega)⟩
   obtain ⟨d, hd⟩ : ∃ x, Hid (cs[j + 1]? = some x) := ⟨_, List.getElem?_eq_getElem (by rw [← EC.out]; omega)⟩
   obtain ⟨b, o, rfl, hlb, hc0, hxs⟩ := HK.out.2.2 j k hk.out
   obtain ⟨bb, oo, hbo, hlb2, hc2⟩ := HC.out.2.2 (j + 1) d hd.out
   obtain ⟨rfl, rfl⟩ : bb = b' ∧ oo = o' := by cases hbo; exact ⟨rfl, rfl⟩
   have hck := cell_below hB0 hc0
   have hcv := cell_below hB0 hc2
   have cT : ∀ V, Calls Tryz.prog 140 #[.string k] V fun e w' => e = .returned (.string (textS k)) ∧ Below V.heap.size V w' := fun V => nodeText_any k V hxs
   have cU : ∀ V, Calls Tryz.prog 121 #[.int .i64 d, .int .i64 2] V fun e w' => e = .returned (.string (putS d 2)) ∧ Below V.heap.size V w' := fun V => number_any d 2 V
   have b1 : (textS k).size ≤ 65537 := textS_le k
   have b2 : (putS d 2).size ≤ 65537 := putS_le d
   have b3 := HB.out j (by rw [← EK.out]; omega)
   have hN : Hid (cat [kidS ks cs j, textS k, putS d 2] = kidS ks cs (j + 1)) := kidS_next (by rw [← EK.out, ← EC.out]; omega) hk.out hy.out hd.out
   generalize kidS ks cs j = s at b3 hN
   generalize textS k = tk at cT b1 hN
   generalize putS d 2 = tv at cU b2 hN
   have cA : ∀ V, Calls Tryz.prog 122 #[.slice (some ⟨V.heap.size, 0, none⟩) 3 3] (V.alloc (.cells #[.string s, .string tk, .string tv] 9)) fun e w' => e = .returned (.string (cat [s, tk, tv])) ∧ Below V.heap.size V w' := fun V => all_three s tk tv V (by omega)
   clear hc0 hc2 hlb hlb2 HB hbo
   have HB := Below.refl wr.heap.size wr
   have w1 : IntKind.i64.wrap ((j : Int) + 1) = (j : Int) + 1 := i64_in _ (by omega) (by omega)
   have w2 : (0 : Int) ≤ (j : Int) + 1 := by omega
   have w3 : (j : Int) + 1 < (n : Int) + 1 := by omega
   have w4 : ((j : Int) + 1).toNat = j + 1 := by omega
   go_wp2
   replace HB := HB.drew
   go_region_held3 (fun V => V.cell? ⟨w.heap.size, 3, none⟩ = some (.slice (some ⟨bb, oo, none⟩) (n + 1) c'') ∧ V.cell? ⟨bb, oo + (j + 1), none⟩ = some (.int .i64 d)) (first | exact ⟨q3, hcv⟩ | exact ⟨cell_alloc q3 _, cell_alloc hcv _⟩) (first
    | (go_at_call 140; refine (cT _).mono ?_; rintro e w1 ⟨rfl, hb⟩; replace q3 := cell_below hb q3; replace hcv := cell_below hb hcv; replace HB := Below.tr HB hb; clear hb)
    | (go_at_call 121; refine (cU _).mono ?_; rintro e w2 ⟨rfl, hb⟩; replace q3 := cell_below hb q3; replace hcv := cell_below hb hcv; replace HB := Below.tr HB hb; clear hb)
    | (go_at_call 122; refine (cA _).mono ?_; rintro e w3 ⟨rfl, hb⟩; replace q3 := cell_below hb q3; replace hcv := cell_below hb hcv; replace HB := Below.tr HB hb; clear hb))
   go_wp2
   go_roundw
   case rel => exact ⟨j + 1, by omega, by go_num, by rw [hN.out], Below.tr hbel HB⟩
   case measure => simp [intOf]; omega
  ·
   obtain rfl : j = n := by omega
   have e1 : Hid (kidS ks cs j = cat (innP ks cs ++ [putS (cs.getD ks.length 0) 2])) := by
    show _ = _
    unfold kidS
    have ec : cs = cs.take j ++ cs.drop j := (List.take_append_drop _ _).symm
    have e2 : innP ks (cs.take j) = innP ks cs := by
     conv => rhs; rw [ec]
     exact (innP_more ks _ _ (by rw [List.length_take, ← EC.out, ← EK.out]; omega)).symm
    rw [List.take_of_length_le (by rw [← EK.out]; exact Nat.le_refl _), e2, ← EK.out]
   go_wp2
   go_ret
   exact ⟨ret_str (by rw [e1.out]), hB0⟩
def nPutS (l : Bool) (ks vs : List ByteArray) (cs : List Int) : ByteArray := if rightN l ks vs cs true = true then nodeS l ks vs cs else ⟨#[]⟩
def nPutE (l : Bool) (ks vs : List ByteArray) (cs : List Int) : Int := if rightN l ks vs cs true = true then 0 else 1
theorem nodeS_leaf (ks vs : List ByteArray) (cs : List Int) : nodeS true ks vs cs = cat [putS ks.length 1, cat (leafP ks vs)] := by
 unfold nodeS nodeP
 rw [if_pos rfl]
 rw [show putS (ks.length : Int) 1 :: leafP ks vs = [putS (ks.length : Int) 1] ++ leafP ks vs by rfl, cat_append]
 rw [show [putS (ks.length : Int) 1, cat (leafP ks vs)] = [putS (ks.length : Int) 1] ++ [cat (leafP ks vs)] by rfl, cat_append, cat_one (cat _)]
theorem nodeS_inner (ks vs : List ByteArray) (cs : List Int) : nodeS false ks vs cs = cat [putS ks.length 1, cat (innP ks cs ++ [putS (cs.getD ks.length 0) 2])] := by
 unfold nodeS nodeP
 rw [if_neg (by decide)]
 generalize innP ks cs ++ [putS (cs.getD ks.length 0) 2] = X
 rw [show putS (ks.length : Int) 1 :: X = [putS (ks.length : Int) 1] ++ X by rfl, cat_append]
 rw [show [putS (ks.length : Int) 1, cat X] = [putS (ks.length : Int) 1] ++ [cat X] by rfl, cat_append, cat_one (cat _)]
set_option maxRecDepth 20000 in
set_option maxHeartbeats 2000000 in
theorem nodePut_any (l : Bool) (a a' a'' : Option Addr) (c c' c'' n n' n'' : Nat) (ks vs : List ByteArray) (cs : List Int) (w : World) (hn : n = ks.length) (hn' : n' = vs.length) (hn'' : n'' = cs.length) (hK : IsS w a c ks) (hV : IsS w a' c' vs) (hC : IsI w a'' c'' cs) :
  Calls Tryz.prog 100 #[.agg #[.bool l, .slice a n c, .slice a' n' c', .slice a'' n'' c'']] w fun e w' => e = .returned (.tuple #[.string (nPutS l ks vs cs), .int .i64 (nPutE l ks vs cs)]) ∧ Below w.heap.size w w' := by
 obtain ⟨W, hW⟩ : ∃ W, W = w.alloc (.cells #[.bool l, .slice a n c, .slice a' n' c', .slice a'' n'' c''] 76) := ⟨_, rfl⟩
 have hB0 : Below w.heap.size w W := by rw [hW]; exact (Below.refl _ _).alloc (Nat.le_refl _) _
 have hX : Box4 W w.heap.size (.bool l) (.slice a n c) (.slice a' n' c') (.slice a'' n'' c'') := by rw [hW]; exact box4_new _ _ _ _ _ _ rfl
 have cR : ∀ V, Below w.heap.size w V → Calls Tryz.prog 80 #[.agg #[.bool l, .slice a n c, .slice a' n' c', .slice a'' n'' c''], .bool true] V fun e w' => e = .returned (.bool (rightN l ks vs cs true)) ∧ Below V.heap.size V w' := fun V h => nodeRight_any _ _ _ _ _ _ _ _ _ _ _ _ _ _ _ hn hn' hn'' (hK.below h) (hV.below h) (hC.below h)
 have cN : ∀ V, Calls Tryz.prog 121 #[.int .i64 n, .int .i64 1] V fun e w' => e = .returned (.string (putS n 1)) ∧ Below V.heap.size V w' := fun V => number_any n 1 V
 have hm : n ≤ 9223372036854775807 := by rw [hn]; exact hK.size
 unfold nPutS nPutE
 cases hr : rightN l ks vs cs true with
 | true =>
  rw [if_pos rfl, if_pos rfl]
  rw [hr] at cR
  obtain ⟨hst, h8, _⟩ := rightN_iff.1 hr
  have hone : (putS n 1).size ≤ 65537 := putS_le _
  cases l with
  | true =>
   obtain ⟨rfl, hlen⟩ := leaf_one_eq hst
   have cP : ∀ V, Below w.heap.size w V → Calls Tryz.prog 123 #[.agg #[.bool true, .slice a n c, .slice a' n' c', .slice a'' n'' c'']] V fun e w' => e = .returned (.string (cat (leafP ks vs))) ∧ Below V.heap.size V w' := fun V h => pairs_any _ _ _ _ _ _ _ _ _ _ _ _ _ hn hn' (hK.below h) (hV.below h) hst
   have hb := leafP_bound hst ks.length
   rw [List.take_length, List.take_of_length_le (by omega)] at hb
   rw [nodeS_leaf, ← hn]
   generalize putS n 1 = p1 at hone cN
   generalize cat (leafP ks vs) = p2 at hb cP
   have cA : ∀ V, Calls Tryz.prog 122 #[.slice (some ⟨V.heap.size, 0, none⟩) 2 2] (V.alloc (.cells #[.string p1, .string p2] 9)) fun e w' => e = .returned (.string (cat [p1, p2])) ∧ Below V.heap.size V w' := fun V => all_two p1 p2 V (by omega)
   clear hn hn' hn'' hK hV hC hr hst h8 hone hb
   obtain ⟨⟨q0, q1, q2, q3⟩, -⟩ := id hX
   go_enter Tryz.func100, Tryz.ntmps100
   go_wp2_with (first
    | (go_at_call 80; rw [← hW]; refine (cR _ hB0).mono ?_; rintro e w1 ⟨rfl, hb⟩; replace hX := hX.below hb; replace hB0 := Below.tr hB0 hb; clear q0 q1 q2 q3 hb cR; obtain ⟨⟨q0, q1, q2, q3⟩, -⟩ := id hX)
    | (go_at_call 121; refine (cN _).mono ?_; rintro e w1 ⟨rfl, hb⟩; replace hX := hX.below hb; replace hB0 := Below.tr hB0 hb; clear q0 q1 q2 q3 hb cN; obtain ⟨⟨q0, q1, q2, q3⟩, -⟩ := id hX)
    | (go_at_call 123; refine (cP _ hB0).mono ?_; rintro e w1 ⟨rfl, hb⟩; replace hB0 := Below.tr hB0 hb; clear q0 q1 q2 q3 hb cP)
    | (go_at_call 122; refine (cA _).mono ?_; rintro e w1 ⟨rfl, hb⟩; replace hB0 := Below.tr hB0 hb; clear hb))
   go_ret2
   exact ⟨rfl, hB0⟩
  | false =>
   obtain ⟨rfl, hlen, h1⟩ := inner_one_eq hst
   have cP : ∀ V, Below w.heap.size w V → Calls Tryz.prog 124 #[.agg #[.bool false, .slice a n c, .slice a' n' c', .slice a'' n'' c'']] V fun e w' => e = .returned (.string (cat (innP ks cs ++ [putS (cs.getD ks.length 0) 2]))) ∧ Below V.heap.size V w' := fun V h => children_any _ _ _ _ _ _ _ _ _ _ _ _ _ hn hn'' (hK.below h) (hC.below h) hst
   have hb := kidS_bound hst ks.length (Nat.le_refl _)
   have hb' : (cat (innP ks cs ++ [putS (cs.getD ks.length 0) 2])).size ≤ 326 := by
    have e2 : innP ks (cs.take ks.length) = innP ks cs := by
     conv => rhs; rw [(List.take_append_drop ks.length cs).symm]
     exact (innP_more ks _ _ (by rw [List.length_take]; omega)).symm
    unfold kidS at hb
    rw [List.take_length, e2] at hb
    exact hb
   rw [nodeS_inner, ← hn]
   rw [← hn] at cP hb'
   generalize putS n 1 = p1 at hone cN
   generalize cat (innP ks cs ++ [putS (cs.getD n 0) 2]) = p2 at hb' cP
   have cA : ∀ V, Calls Tryz.prog 122 #[.slice (some ⟨V.heap.size, 0, none⟩) 2 2] (V.alloc (.cells #[.string p1, .string p2] 9)) fun e w' => e = .returned (.string (cat [p1, p2])) ∧ Below V.heap.size V w' := fun V => all_two p1 p2 V (by omega)
   clear hn hn' hn'' hK hV hC hr hst h8 hone hb hb' hlen h1
   obtain ⟨⟨q0, q1, q2, q3⟩, -⟩ := id hX
   go_enter Tryz.func100, Tryz.ntmps100
   go_wp2_with (first
    | (go_at_call 80; rw [← hW]; refine (cR _ hB0).mono ?_; rintro e w1 ⟨rfl, hb⟩; replace hX := hX.below hb; replace hB0 := Below.tr hB0 hb; clear q0 q1 q2 q3 hb cR; obtain ⟨⟨q0, q1, q2, q3⟩, -⟩ := id hX)
    | (go_at_call 121; refine (cN _).mono ?_; rintro e w1 ⟨rfl, hb⟩; replace hX := hX.below hb; replace hB0 := Below.tr hB0 hb; clear q0 q1 q2 q3 hb cN; obtain ⟨⟨q0, q1, q2, q3⟩, -⟩ := id hX)
    | (go_at_call 124; refine (cP _ hB0).mono ?_; rintro e w1 ⟨rfl, hb⟩; replace hB0 := Below.tr hB0 hb; clear q0 q1 q2 q3 hb cP)
    | (go_at_call 122; refine (cA _).mono ?_; rintro e w1 ⟨rfl, hb⟩; replace hB0 := Below.tr hB0 hb; clear hb))
   go_ret2
   exact ⟨rfl, hB0⟩
 | false =>
  rw [if_neg (by decide), if_neg (by decide)]
  rw [hr] at cR
  clear hn hn' hn'' hK hV hC hr
  obtain ⟨⟨q0, q1, q2, q3⟩, -⟩ := id hX
  go_enter Tryz.func100, Tryz.ntmps100
  go_wp2_with (go_at_call 80; rw [← hW]; refine (cR _ hB0).mono ?_; rintro e w1 ⟨rfl, hb⟩; replace hX := hX.below hb; replace hB0 := Below.tr hB0 hb; clear q0 q1 q2 q3 hb cR; obtain ⟨⟨q0, q1, q2, q3⟩, -⟩ := id hX)
  go_ret2
  exact ⟨rfl, hB0⟩
end Go.Proofs.YtaecfbfcjaailaaGreat
