/-
  A copy of a device's blocks; package device's Flush.
-/
import Derived.Test.YtcdcnonkoffbhaaDevNew
import Derived.Deep.AppendLies
import Derived.Lib.SmallJoins
import Derived.Lib.SliceRun
namespace Go.Proofs.Ytcdcnonkoffbhaa
open Go.RowKit Plain
set_option linter.unusedVariables false
set_option maxRecDepth 20000

/-- A row of texts that the call itself owns. -/
def RowS (w : World) (g cap : Nat) (bs : List ByteArray) : Prop :=
  ∃ cur : Array Value, w.heap[g]? = some (.cells cur 9 (0, 0)) ∧ cur.toList.take bs.length = bs.map Value.string ∧ bs.length ≤ cap ∧ cap ≤ maxLen ∧ cur.size = cap

theorem RowS.lt {w : World} {g cap : Nat} {bs : List ByteArray} (h : RowS w g cap bs) : g < w.heap.size := by
  obtain ⟨cur, hg, _⟩ := h
  exact (Array.getElem?_eq_some_iff.1 hg).1

theorem RowS.below {w w' : World} {g cap : Nat} {bs : List ByteArray} (h : RowS w g cap bs) (hb : Below w.heap.size w w') : RowS w' g cap bs := by
  have hl := h.lt
  obtain ⟨cur, hg, hr⟩ := h
  exact ⟨cur, by rw [hb.block g hl]; exact hg, hr⟩

theorem RowS.cell {w : World} {g cap : Nat} {bs : List ByteArray} (h : RowS w g cap bs) {j : Nat} {x : ByteArray} (hx : bs[j]? = some x) : w.cell? ⟨g, j, none⟩ = some (.string x) ∧ w.frozen? ⟨g, j, none⟩ = false := by
  obtain ⟨cur, hg, ht, hl, _, hs⟩ := h
  have hj := (List.getElem?_eq_some_iff.1 hx).1
  have hc : cur[j]? = some (.string x) := by
    rw [← Array.getElem?_toList]
    have : (cur.toList.take bs.length)[j]? = some (.string x) := by rw [ht, List.getElem?_map, hx]; rfl
    rwa [List.getElem?_take_of_lt hj] at this
  exact ⟨by rw [Joins.cell_of_block hg]; exact hc, Joins.unfrozen_of_block hg j⟩

theorem RowS.set {w : World} {g cap : Nat} {bs : List ByteArray} (h : RowS w g cap bs) {j : Nat} (hj : j < bs.length) (x : ByteArray) : RowS (w.setCell ⟨g, j, none⟩ (.string x)) g cap (bs.set j x) := by
  obtain ⟨cur, hg, ht, hl, hm, hs⟩ := h
  refine ⟨_, Joins.block_setCell hg _, ?_, by rw [List.length_set]; exact hl, hm, by rw [Array.size_setIfInBounds]; exact hs⟩
  rw [List.length_set, Array.toList_setIfInBounds, List.take_set, ht, List.map_set]

theorem RowS.isS {w : World} {g cap : Nat} {bs : List ByteArray} (h : RowS w g cap bs) (hz : ∀ x ∈ bs, x.size ≤ maxLen) : IsS w (some ⟨g, 0, none⟩) cap bs := by
  have hl := h.lt
  have hc := h
  obtain ⟨cur, hg, ht, h1, h2, hs⟩ := h
  exact ⟨h1, h2, fun j x hx => ⟨g, 0, rfl, hl, by rw [Nat.zero_add]; exact (hc.cell hx).1, hz x (List.mem_of_getElem? hx)⟩⟩

/-- What a world has kept of another one but for one block. -/
def Kept (g : Nat) (W wr : World) : Prop := W.heap.size ≤ wr.heap.size ∧ ∀ k, k < W.heap.size → k ≠ g → wr.heap[k]? = W.heap[k]?

theorem Kept.refl (g : Nat) (W : World) : Kept g W W := ⟨Nat.le_refl _, fun _ _ _ => rfl⟩

theorem Kept.below {g : Nat} {W wr w' : World} (h : Kept g W wr) (hb : Below wr.heap.size wr w') : Kept g W w' :=
  ⟨Nat.le_trans h.1 hb.size, fun k hk hn => by rw [hb.block k (Nat.lt_of_lt_of_le hk h.1)]; exact h.2 k hk hn⟩

theorem Kept.set {g : Nat} {W wr : World} (h : Kept g W wr) (j : Nat) (v : Value) : Kept g W (wr.setCell ⟨g, j, none⟩ v) :=
  ⟨by simpa using h.1, fun k hk hn => by rw [Below.heap_setCell _ _ _ _ hn]; exact h.2 k hk hn⟩

theorem Kept.cell {g : Nat} {W wr : World} (h : Kept g W wr) {p : Addr} {v : Value} (hn : p.block ≠ g) (hc : W.cell? p = some v) : wr.cell? p = some v := by
  rw [World.cell?_of_block (w := W) (h.2 p.block (cell_lt hc) hn)]; exact hc

theorem Kept.frozen {g : Nat} {W wr : World} (h : Kept g W wr) {p : Addr} (hl : p.block < W.heap.size) (hn : p.block ≠ g) (hc : W.frozen? p = false) : wr.frozen? p = false := by
  rw [World.frozen?_of_block (w := W) (h.2 p.block hl hn)]; exact hc

theorem Kept.isP {g : Nat} {W wr : World} (h : Kept g W wr) {a : Option Addr} {c : Nat} {ps : List (Int × ByteArray)} {w : World} (hP : IsP w a c ps) (hW : Below w.heap.size w W) (hg : w.heap.size ≤ g) : IsP wr a c ps := by
  have hP' := hP.below hW
  refine ⟨hP.1, hP.2.1, fun j p hp => ?_⟩
  obtain ⟨b, o, ha, hlt, hc, hc2, hr⟩ := hP.2.2 j p hp
  refine ⟨b, o, ha, Nat.lt_of_lt_of_le hlt (Nat.le_trans hW.size h.1), h.cell (by show b ≠ g; omega) (cell_below hW hc), h.cell (by show b ≠ g; omega) (cell_below hW hc2), hr⟩

set_option maxHeartbeats 1000000 in
theorem clone_any (a : Option Addr) (c : Nat) (bs : List ByteArray) (w : World) (hS : IsS w a c bs) (h1 : 1 ≤ bs.length) (h2 : bs.length ≤ 2048) :
    Calls Try.prog 41 #[.slice a bs.length c] w fun e w' => ∃ g cap, e = .returned (.slice (some ⟨g, 0, none⟩) bs.length cap) ∧ w.heap.size ≤ g ∧ RowS w' g cap bs ∧ Below w.heap.size w w' := by
  obtain ⟨i0, hi, hz0, hz1, hz2⟩ := info_parts Try.info9
  obtain ⟨b, o, rfl⟩ := hS.some (by omega)
  have HC : Hid (∀ j x, bs[j]? = some x → w.cell? ⟨b, o + j, none⟩ = some (.string x)) := by
    intro j x hx
    obtain ⟨b', o', he, _, hc, _⟩ := hS.2.2 j x hx
    cases he
    exact hc
  clear hS
  have q : ∀ (w : World) (a : Option Addr) (n c n' c' : Nat), (binOp .eql 29 (.slice a n c) (.slice none n' c')).run Try.prog w = .ok (.bool a.isNone) w := fun w a n c n' c' => Lib.run_eql_slice_nil w _ _ a n c n' c' Try.underlying29
  go_enter Try.func41, Try.ntmps41
  go_wp2_with (at_builtin; refine wpList_append_own _ rfl _ _ 29 rfl w.heap.size 9 i0 (.string ⟨#[]⟩) 1 16 Try.underlying29 hi hz0 hz1 hz2 rfl (by decide) _ _ _ rfl (World.ownsRow_made w #[] 0 (Nat.le_refl _) (Nat.zero_le _) rfl) ⟨b, o, none⟩ bs.length c (bs.map Value.string) rfl ?qc1 ?qc2 ?qc3 ?qc4 ?qc5 ?qc6 ?_)
  case qc1 => simp
  case qc2 =>
    intro j u hj
    rw [List.getElem?_map] at hj
    obtain ⟨x, hx, rfl⟩ := Option.map_eq_some_iff.1 hj
    rw [at_add]
    exact Lib.cell?_alloc_some _ (HC.out j x hx)
  case qc3 => intro u hu; obtain ⟨x, _, rfl⟩ := List.mem_map.1 hu; rfl
  case qc4 => unfold maxLen; omega
  case qc5 => omega
  case qc6 => simp
  intro v' w1 hown hgrow hnil
  obtain ⟨_, hr⟩ := hown
  rcases hr with ⟨_, hn⟩ | ⟨g, cap, cur, rfl, hg, hcur, hnc, hcm, hsz, htk⟩
  · omega
  · have hB : Below w.heap.size w w1 := ((Below.refl _ w).alloc (Nat.le_refl _) _).grown hgrow (by simp) (by intro k hk; simp [Value.ownBlock] at hk; omega)
    have HR : Hid (RowS w1 g cap bs) := ⟨cur, hcur, by simpa using htk, by omega, hcm, by omega⟩
    clear hcur htk hgrow hnil
    go_wp2
    go_ret
    exact ⟨g, cap, by simp, hg, HR.out, hB⟩

theorem RowS.setOther {w : World} {g cap h i : Nat} {bs : List ByteArray} {v : Value} (hr : RowS w g cap bs) (hn : g ≠ h) : RowS (w.setCell ⟨h, i, none⟩ v) g cap bs := by
  obtain ⟨cur, hg, hr⟩ := hr
  exact ⟨cur, by rw [Below.heap_setCell _ _ _ _ hn]; exact hg, hr⟩

theorem frozen_alloc {w : World} {b o : Nat} (hl : b < w.heap.size) (h : w.frozen? ⟨b, o, none⟩ = false) : ∀ x, (w.alloc x).frozen? ⟨b, o, none⟩ = false := fun x =>
  (Below.frozen ((Below.refl w.heap.size w).alloc (Nat.le_refl _) x) (p := ⟨b, o, none⟩) hl).trans h

/-- The blocks behind a flush of the first so many writes. -/
def flushN (bs : List ByteArray) (ps : List (Int × ByteArray)) (j : Nat) : List ByteArray := crashOn (fun _ => 255) 0 bs (ps.take j)

theorem flushN_length (bs : List ByteArray) (ps : List (Int × ByteArray)) (j : Nat) : (flushN bs ps j).length = bs.length := crashOn_length _ _ _ _

theorem flushN_succ {bs : List ByteArray} {ps : List (Int × ByteArray)} (h : rightD bs ps = true) {j : Nat} {p : Int × ByteArray} (hp : ps[j]? = some p) : flushN bs ps (j + 1) = (flushN bs ps j).set p.1.toNat p.2 := by
  have hw := ((rightD_iff bs ps).1 h).2.2 p (List.mem_of_getElem? hp)
  obtain ⟨_, hs⟩ := (okW_iff _ _).1 hw
  obtain ⟨hz, he⟩ := (okS_iff _).1 hs
  unfold flushN
  rw [List.take_add_one, hp]
  show crashOn _ 0 bs (ps.take j ++ [p]) = _
  rw [crashOn_snoc, mix_all _ _ hz, trim_even he]

theorem flush_sizes {bs : List ByteArray} {ps : List (Int × ByteArray)} (h : rightD bs ps = true) (m : Nat → Int) (qs : List (Int × ByteArray)) : ∀ x ∈ crashOn m 0 bs qs, x.size ≤ maxLen := by
  intro x hx
  have := crashOn_ok m 0 qs ((rightD_iff bs ps).1 h).2.1 x hx
  exact Nat.le_trans ((okS_iff _).1 this).1 (by unfold maxLen; omega)

/-- What Flush answers. -/
def flushL (bs : List ByteArray) (ps : List (Int × ByteArray)) : List ByteArray := if rightD bs ps = true then crashL (fun _ => 255) bs ps else []
def rightE (bs : List ByteArray) (ps : List (Int × ByteArray)) : Int := if rightD bs ps = true then 0 else 1

theorem frozen_new (w : World) (C : Array Value) (t : TypeId) (n j : Nat) (hn : n = w.heap.size) : (w.alloc (.cells C t)).frozen? ⟨n, j, none⟩ = false := by
  subst hn
  exact (World.frozen?_alloc_mark w C t 0 0 j).trans (by simp)

/-- A box of what came in and one of what goes out. -/
theorem two_boxes {w W : World} {v0 v1 u0 u1 : Value} {t : TypeId} (hW : W = (w.alloc (.cells #[v0, v1] t)).alloc (.cells #[u0, u1] t)) :
    Below w.heap.size w W ∧ W.heap.size = w.heap.size + 2 ∧ (W.cell? ⟨w.heap.size, 0, none⟩ = some v0 ∧ W.cell? ⟨w.heap.size, 1, none⟩ = some v1) ∧ (W.cell? ⟨w.heap.size + 1, 0, none⟩ = some u0 ∧ W.cell? ⟨w.heap.size + 1, 1, none⟩ = some u1) ∧
      W.frozen? ⟨w.heap.size + 1, 0, none⟩ = false ∧ W.frozen? ⟨w.heap.size + 1, 1, none⟩ = false := by
  subst hW
  refine ⟨((Below.refl _ _).alloc (Nat.le_refl _) _).alloc (by simp) _, by simp, ⟨?_, ?_⟩, ⟨?_, ?_⟩, ?_, ?_⟩
  · exact Lib.cell?_alloc_some _ (World.cell?_alloc_at _ _ _ _ rfl)
  · exact Lib.cell?_alloc_some _ (World.cell?_alloc_at _ _ _ _ rfl)
  · exact World.cell?_alloc_at _ _ _ _ (by simp)
  · exact World.cell?_alloc_at _ _ _ _ (by simp)
  · exact frozen_new _ _ _ _ _ (by simp)
  · exact frozen_new _ _ _ _ _ (by simp)

theorem frozen_below {w w' : World} {b o : Nat} (hb : Below w.heap.size w w') (hl : b < w.heap.size) (h : w.frozen? ⟨b, o, none⟩ = false) : w'.frozen? ⟨b, o, none⟩ = false := (hb.frozen (p := ⟨b, o, none⟩) hl).trans h

end Go.Proofs.Ytcdcnonkoffbhaa
