/-
  Texts laid together: Core NodeMem DevPlain DevModel DevBytes DevNew DevFlush PagerMeter NodeJoined DevWrites PagerClone Anylast Anyact Anyorder PagerDisk DevWrite PagerWrite PagerCount PagerCalled DevOpen DevCrash DevRefBytes DevRefCrash DevRefTells PagerRefDo DevRight.
-/
import Derived.Test.YtaobfgplheoefaaGreatRows
import Derived.Test.YtaobfgplheoefaaGreatSfD
import Derived.WalkSpells
import Derived.WalkLawsBesides
import Derived.Handy
import Derived.Deep.OwnRows
import Derived.Deep.AppendLies
import Derived.Lib.SmallJoins
import Derived.Lib.SliceRun
import Derived.Deep.RegionHeld3
import Derived.Lib.AppendZeros
import Derived.Lib.AppendZerosOnto
import Derived.RangeFuncRecord
import Derived.Orders
import Derived.WalkKit
import Derived.Below
import Derived.Deep.SlicePairs
namespace Go.Proofs.YtaobfgplheoefaaGreat
open Go.RowKit Plain Go.ChangeShapes Go.WideShapes
set_option linter.unusedVariables false
theorem spot_none {w : World} {x : Addr} {v : Value} (h : w.cell? (x.add 0) = some v) : ∃ b o, x = ⟨b, o, none⟩ ∧ b < w.heap.size := by
 obtain ⟨b, o, s⟩ := x
 have hs : s = none := by simpa [Addr.add] using World.cell?_spot h
 subst hs
 rw [at_add] at h
 exact ⟨b, o, rfl, cell_lt h⟩
theorem open_S {H : Type} {enc : TypeId × Value → H} {w : World} {fuel : Nat} {v : Value} {x : DataW H × List MemPlace}
  (h : DataW.trod enc Tryz.prog w 0 (fun _ => true) true fuel 22 [v] = some x) : ∃ a c bs, v = .slice a bs.length c ∧ IsS w a c bs := by
 rcases open_strings Tryz.underlying22 Tryz.underlying9 (by kernel_rfl) h with ⟨hcs, _⟩ | ⟨a, l, c, ss, hcs, _, hl, hm, hz, _, hcell, hwz⟩
 ·
  simp at hcs
  exact ⟨none, 0, [], hcs, isS_nil _⟩
 ·
  simp at hcs
  simp at hz
  refine ⟨some a, c, ss.take l, by rw [List.length_take, hz, Nat.min_eq_left hl]; exact hcs, by rw [List.length_take]; omega, hm, fun j y hy => ?_⟩
  have hjl : j < ss.length := by
   have := (List.getElem?_eq_some_iff.1 hy).1
   rw [List.length_take] at this; omega
  have hyy : ss[j]? = some y := by
   rw [List.getElem?_take] at hy
   split at hy
   ·
    exact hy
   ·
    cases hy
  have hc := hcell j hjl
  rw [List.getD_eq_getElem?_getD, hyy] at hc
  obtain ⟨b, o, rfl, hb⟩ := spot_none (hcell 0 (by omega))
  rw [at_add] at hc
  exact ⟨b, o, rfl, hb, hc, hwz y (List.mem_of_getElem? hyy)⟩
end Go.Proofs.YtaobfgplheoefaaGreat
namespace Go.Proofs.YtaobfgplheoefaaGreat.Plain
open Go.RowKit
theorem byteAt_mk (l : List UInt8) (j : Nat) : byteAt ⟨l.toArray⟩ j = l[j]?.getD 0 := rfl
def bitOn (m : Int) (k : Nat) : Bool := m / 2 ^ k % 2 != 0
def mixB (o n : ByteArray) (m : Int) (i : Nat) : UInt8 := if bitOn m (i / 512) = true then byteAt n i else byteAt o i
def mixL (o n : ByteArray) (m : Int) (k : Nat) : List UInt8 := (List.range k).map (mixB o n m)
def mixS (o n : ByteArray) (m : Int) : ByteArray := trimS ⟨(mixL o n m 4096).toArray⟩
theorem mixL_length (o n : ByteArray) (m : Int) (k : Nat) : (mixL o n m k).length = k := by simp [mixL]
theorem byteAt_mix (o n : ByteArray) (m : Int) (i : Nat) : byteAt (mixS o n m) i = if i < 4096 then mixB o n m i else 0 := by
 unfold mixS
 rw [byteAt_trim, byteAt_mk]
 split
 ·
  rename_i h
  simp [mixL, h]
 ·
  rename_i h
  rw [List.getElem?_eq_none (by rw [mixL_length]; omega)]; rfl
theorem even_mix (o n : ByteArray) (m : Int) : Even (mixS o n m) := even_trim _
theorem trim_mk_size (l : List UInt8) : (trimS ⟨l.toArray⟩).size ≤ l.length := trimS_le ⟨l.toArray⟩
theorem mix_size (o n : ByteArray) (m : Int) : (mixS o n m).size ≤ 4096 := by
 unfold mixS
 exact Nat.le_trans (trim_mk_size _) (Nat.le_of_eq (mixL_length o n m 4096))
theorem bitOn_full (k : Nat) (h : k < 8) : bitOn 255 k = true := by
 match k, h with
 | 0, _ => rfl
 | 1, _ => rfl
 | 2, _ => rfl
 | 3, _ => rfl
 | 4, _ => rfl
 | 5, _ => rfl
 | 6, _ => rfl
 | 7, _ => rfl
theorem mix_all (o n : ByteArray) (h : n.size ≤ 4096) : mixS o n 255 = trimS n := by
 refine even_ext (even_mix _ _ _) (even_trim _) fun j => ?_
 rw [byteAt_mix, byteAt_trim]
 split
 ·
  unfold mixB
  rw [bitOn_full _ (by omega)]; rfl
 ·
  exact (byteAt_out (by omega)).symm
theorem okS_mix (o n : ByteArray) (m : Int) : okS (mixS o n m) = true := (okS_iff _).2 ⟨mix_size o n m, even_mix o n m⟩
theorem blk_mem {bs : List ByteArray} {k : Nat} (h : k < bs.length) : blk bs k ∈ bs := by
 unfold blk
 rw [List.getElem?_eq_getElem h]
 exact List.getElem_mem h
def crashOn (m : Nat → Int) : Nat → List ByteArray → List (Int × ByteArray) → List ByteArray
 | _, bs, [] => bs
 | i, bs, p :: ps => crashOn m (i + 1) (bs.set p.1.toNat (mixS (blk bs p.1.toNat) p.2 (m i))) ps
def crashL (m : Nat → Int) (bs : List ByteArray) (ps : List (Int × ByteArray)) : List ByteArray := crashOn m 0 bs ps
theorem crashOn_length (m : Nat → Int) (i : Nat) (bs : List ByteArray) (ps : List (Int × ByteArray)) : (crashOn m i bs ps).length = bs.length := by
 induction ps generalizing i bs with
 | nil => rfl
 | cons p ps ih =>
  show (crashOn m (i + 1) _ ps).length = _
  rw [ih, List.length_set]
theorem crashOn_snoc (m : Nat → Int) (i : Nat) (bs : List ByteArray) (ps : List (Int × ByteArray)) (p : Int × ByteArray) :
  crashOn m i bs (ps ++ [p]) = (crashOn m i bs ps).set p.1.toNat (mixS (blk (crashOn m i bs ps) p.1.toNat) p.2 (m (i + ps.length))) := by
 induction ps generalizing i bs with
 | nil => rfl
 | cons q ps ih =>
  show crashOn m (i + 1) _ (ps ++ [p]) = _
  rw [ih]
  show _ = (crashOn m (i + 1) _ ps).set _ (mixS (blk (crashOn m (i + 1) _ ps) _) _ (m (i + (ps.length + 1))))
  rw [show i + 1 + ps.length = i + (ps.length + 1) by omega]
theorem okS_set {bs : List ByteArray} (h : ∀ s ∈ bs, okS s = true) (k : Nat) {x : ByteArray} (hx : okS x = true) : ∀ s ∈ bs.set k x, okS s = true := by
 intro s hs
 rcases List.mem_or_eq_of_mem_set hs with h1 | h1
 ·
  exact h s h1
 ·
  rw [h1]; exact hx
theorem crashOn_ok (m : Nat → Int) (i : Nat) {bs : List ByteArray} (ps : List (Int × ByteArray)) (h : ∀ s ∈ bs, okS s = true) : ∀ s ∈ crashOn m i bs ps, okS s = true := by
 induction ps generalizing i bs with
 | nil => exact h
 | cons p ps ih => exact ih (i + 1) (okS_set h _ (okS_mix _ _ _))
end Go.Proofs.YtaobfgplheoefaaGreat.Plain
namespace Go.Proofs.YtaobfgplheoefaaGreat
open Go.RowKit Plain
set_option linter.unusedVariables false
set_option maxRecDepth 20000
theorem size_mk (l : List UInt8) : (⟨l.toArray⟩ : ByteArray).size = l.length := rfl
set_option maxRecDepth 20000
theorem Joins_cell (w : World) (C : Array Value) (t : TypeId) (n j : Nat) (hn : n = w.heap.size) : (w.alloc (.cells C t)).cell? ⟨n, j, none⟩ = C[j]? := by
 subst hn; exact World.cell?_alloc_mark w C t _ j
theorem IsP.some {w : World} {a : Option Addr} {c : Nat} {ps : List (Int × ByteArray)} (h : IsP w a c ps) (hn : 0 < ps.length) : ∃ b o, a = some ⟨b, o, none⟩ := by
 obtain ⟨b, o, ha, _⟩ := h.2.2 0 _ (List.getElem?_eq_getElem hn)
 exact ⟨b, o, ha⟩
set_option maxRecDepth 20000
def KeptD (g : Nat) (W wr : World) : Prop := W.heap.size ≤ wr.heap.size ∧ ∀ k, k < W.heap.size → k ≠ g → wr.heap[k]? = W.heap[k]?
theorem KeptD.refl (g : Nat) (W : World) : KeptD g W W := ⟨Nat.le_refl _, fun _ _ _ => rfl⟩
theorem KeptD.below {g : Nat} {W wr w' : World} (h : KeptD g W wr) (hb : Below wr.heap.size wr w') : KeptD g W w' :=
 ⟨Nat.le_trans h.1 hb.size, fun k hk hn => by rw [hb.block k (Nat.lt_of_lt_of_le hk h.1)]; exact h.2 k hk hn⟩
theorem KeptD.set {g : Nat} {W wr : World} (h : KeptD g W wr) (j : Nat) (v : Value) : KeptD g W (wr.setCell ⟨g, j, none⟩ v) :=
 ⟨by simpa using h.1, fun k hk hn => by rw [Below.heap_setCell _ _ _ _ hn]; exact h.2 k hk hn⟩
theorem KeptD.cell {g : Nat} {W wr : World} (h : KeptD g W wr) {p : Addr} {v : Value} (hn : p.block ≠ g) (hc : W.cell? p = some v) : wr.cell? p = some v := by
 rw [World.cell?_of_block (w := W) (h.2 p.block (cell_lt hc) hn)]; exact hc
theorem KeptD.frozen {g : Nat} {W wr : World} (h : KeptD g W wr) {p : Addr} (hl : p.block < W.heap.size) (hn : p.block ≠ g) (hc : W.frozen? p = false) : wr.frozen? p = false := by
 rw [World.frozen?_of_block (w := W) (h.2 p.block hl hn)]; exact hc
theorem KeptD.isP {g : Nat} {W wr : World} (h : KeptD g W wr) {a : Option Addr} {c : Nat} {ps : List (Int × ByteArray)} {w : World} (hP : IsP w a c ps) (hW : Below w.heap.size w W) (hg : w.heap.size ≤ g) : IsP wr a c ps := by
 have hP' := hP.below hW
 refine ⟨hP.1, hP.2.1, fun j p hp => ?_⟩
 obtain ⟨b, o, ha, hlt, hc, hc2, hr⟩ := hP.2.2 j p hp
 refine ⟨b, o, ha, Nat.lt_of_lt_of_le hlt (Nat.le_trans hW.size h.1), h.cell (by show b ≠ g; omega) (cell_below hW hc), h.cell (by show b ≠ g; omega) (cell_below hW hc2), hr⟩
set_option maxHeartbeats 1000000 in
theorem devClone_any (a : Option Addr) (c : Nat) (bs : List ByteArray) (w : World) (hS : IsS w a c bs) (h1 : 1 ≤ bs.length) (h2 : bs.length ≤ 2048) :
  Calls Tryz.prog 84 #[.slice a bs.length c] w fun e w' => ∃ g cap, e = .returned (.slice (some ⟨g, 0, none⟩) bs.length cap) ∧ w.heap.size ≤ g ∧ RowS w' g cap bs ∧ Below w.heap.size w w' := by
 obtain ⟨i0, hi, hz0, hz1, hz2⟩ := info_parts Tryz.info9
 obtain ⟨b, o, rfl⟩ := hS.some (by omega)
 have HC : Hid (∀ j x, bs[j]? = some x → w.cell? ⟨b, o + j, none⟩ = some (.string x)) := by
  intro j x hx
  obtain ⟨b', o', he, _, hc, _⟩ := hS.2.2 j x hx
  cases he
  exact hc
 clear hS
 have q : ∀ (w : World) (a : Option Addr) (n c n' c' : Nat), (binOp .eql 22 (.slice a n c) (.slice none n' c')).run Tryz.prog w = .ok (.bool a.isNone) w := fun w a n c n' c' => Lib.run_eql_slice_nil w _ _ a n c n' c' Tryz.underlying22
 go_enter Tryz.func84, Tryz.ntmps84
 go_wp2_with (at_builtin; refine wpList_append_own _ rfl _ _ 22 rfl w.heap.size 9 i0 (.string ⟨#[]⟩) 1 16 Tryz.underlying22 hi hz0 hz1 hz2 rfl (by decide) _ _ _ rfl (World.ownsRow_made w #[] 0 (Nat.le_refl _) (Nat.zero_le _) rfl) ⟨b, o, none⟩ bs.length c (bs.map Value.string) rfl ?qc1 ?qc2 ?qc3 ?qc4 ?qc5 ?qc6 ?_)
 case qc1 => simp
 case qc2 =>
  intro j u hj
  rw [List.getElem?_map] at hj
  obtain ⟨x, hx, rfl⟩ := Option.map_eq_some_iff.1 hj
  rw [at_add]
  exact Lib.cell?_alloc_some _ (HC.out j x hx)
 case qc3 => intro u hu; obtain ⟨x, _, rfl⟩ := List.mem_map.1 hu; rfl
 case qc4 => unfold maxLen; omega
 case qc5 => omega
 case qc6 => simp
 intro v' w1 hown hgrow hnil
 obtain ⟨_, hr⟩ := hown
 rcases hr with ⟨_, hn⟩ | ⟨g, cap, cur, rfl, hg, hcur, hnc, hcm, hsz, htk⟩
 ·
  omega
 ·
  have hB : Below w.heap.size w w1 := ((Below.refl _ w).alloc (Nat.le_refl _) _).grown hgrow (by simp) (by intro k hk; simp [Value.ownBlock] at hk; omega)
  have HR : Hid (RowS w1 g cap bs) := ⟨cur, hcur, by simpa using htk, by omega, hcm, by omega⟩
  clear hcur htk hgrow hnil
  go_wp2
  go_ret
  exact ⟨g, cap, by simp, hg, HR.out, hB⟩
def flushN (bs : List ByteArray) (ps : List (Int × ByteArray)) (j : Nat) : List ByteArray := crashOn (fun _ => 255) 0 bs (ps.take j)
theorem flushN_length (bs : List ByteArray) (ps : List (Int × ByteArray)) (j : Nat) : (flushN bs ps j).length = bs.length := crashOn_length _ _ _ _
theorem flushN_succ {bs : List ByteArray} {ps : List (Int × ByteArray)} (h : rightD bs ps = true) {j : Nat} {p : Int × ByteArray} (hp : ps[j]? = some p) : flushN bs ps (j + 1) = (flushN bs ps j).set p.1.toNat p.2 := by
 have hw := ((rightD_iff bs ps).1 h).2.2 p (List.mem_of_getElem? hp)
 obtain ⟨_, hs⟩ := (okW_iff _ _).1 hw
 obtain ⟨hz, he⟩ := (okS_iff _).1 hs
 unfold flushN
 rw [List.take_add_one, hp]
 show crashOn _ 0 bs (ps.take j ++ [p]) = _
 rw [crashOn_snoc, mix_all _ _ hz, trim_even he]
theorem flush_sizes {bs : List ByteArray} {ps : List (Int × ByteArray)} (h : rightD bs ps = true) (m : Nat → Int) (qs : List (Int × ByteArray)) : ∀ x ∈ crashOn m 0 bs qs, x.size ≤ maxLen := by
 intro x hx
 have := crashOn_ok m 0 qs ((rightD_iff bs ps).1 h).2.1 x hx
 exact Nat.le_trans ((okS_iff _).1 this).1 (by unfold maxLen; omega)
def flushL (bs : List ByteArray) (ps : List (Int × ByteArray)) : List ByteArray := if rightD bs ps = true then crashL (fun _ => 255) bs ps else []
def rightE (bs : List ByteArray) (ps : List (Int × ByteArray)) : Int := if rightD bs ps = true then 0 else 1
theorem two_boxes {w W : World} {v0 v1 u0 u1 : Value} {t : TypeId} (hW : W = (w.alloc (.cells #[v0, v1] t)).alloc (.cells #[u0, u1] t)) :
  Below w.heap.size w W ∧ W.heap.size = w.heap.size + 2 ∧ (W.cell? ⟨w.heap.size, 0, none⟩ = some v0 ∧ W.cell? ⟨w.heap.size, 1, none⟩ = some v1) ∧ (W.cell? ⟨w.heap.size + 1, 0, none⟩ = some u0 ∧ W.cell? ⟨w.heap.size + 1, 1, none⟩ = some u1) ∧
   W.frozen? ⟨w.heap.size + 1, 0, none⟩ = false ∧ W.frozen? ⟨w.heap.size + 1, 1, none⟩ = false := by
 subst hW
 refine ⟨((Below.refl _ _).alloc (Nat.le_refl _) _).alloc (by simp) _, by simp, ⟨?_, ?_⟩, ⟨?_, ?_⟩, ?_, ?_⟩
 ·
  exact Lib.cell?_alloc_some _ (World.cell?_alloc_at _ _ _ _ rfl)
 ·
  exact Lib.cell?_alloc_some _ (World.cell?_alloc_at _ _ _ _ rfl)
 ·
  exact World.cell?_alloc_at _ _ _ _ (by simp)
 ·
  exact World.cell?_alloc_at _ _ _ _ (by simp)
 ·
  exact frozen_new _ _ _ _ _ (by simp)
 ·
  exact frozen_new _ _ _ _ _ (by simp)
set_option maxHeartbeats 2000000 in
theorem flush_any (a a' : Option Addr) (c c' : Nat) (bs : List ByteArray) (ps : List (Int × ByteArray)) (w : World) (hS : IsS w a c bs) (hP : IsP w a' c' ps) :
  Calls Tryz.prog 139 #[.agg #[.slice a bs.length c, .slice a' ps.length c']] w fun e w' => ∃ b d, e = .returned (.tuple #[.agg #[.slice b (flushL bs ps).length d, .slice none 0 0], .int .i64 (rightE bs ps)]) ∧ IsS w' b d (flushL bs ps) ∧ Below w.heap.size w w' := by
 obtain ⟨W, hW⟩ : ∃ W, W = (w.alloc (.cells #[.slice a bs.length c, .slice a' ps.length c'] 25)).alloc (.cells #[.slice none 0 0, .slice none 0 0] 25) := ⟨_, rfl⟩
 obtain ⟨hB0, hWs, ⟨d0, d1⟩, ⟨e0, e1⟩, f0, f1⟩ := two_boxes hW
 have c1 := right_any a a' c c' bs ps W (hS.below hB0) (hP.below hB0)
 cases hr : rightD bs ps with
 | false =>
  have x1 : Hid (flushL bs ps = []) := by show _ = _; unfold flushL; rw [hr]; rfl
  have x2 : Hid (rightE bs ps = 1) := by show _ = _; unfold rightE; rw [hr]; rfl
  rw [hr, hW] at c1
  go_enter Tryz.func139, Tryz.ntmps139
  go_wp2_with (go_at_call 31; refine c1.mono ?_; rintro e w1 ⟨rfl, hb⟩; rw [← hW] at hb; replace e0 := cell_below hb e0; replace e1 := cell_below hb e1; replace f0 := frozen_below hb (by omega) f0; replace f1 := frozen_below hb (by omega) f1)
  refine bodyPost_ret (v := .tuple #[.agg #[.slice none 0 0, .slice none 0 0], .int .i64 1]) (by simp [results, Tryz.results139, go_sem, e0, e1]) rfl ⟨none, 0, by rw [x1.out, x2.out]; rfl, by rw [x1.out]; exact IsS_nil _, ?_⟩
  exact ((Below.tr hB0 hb).setCell (p := ⟨w.heap.size + 1, 0, none⟩) (Nat.le_succ _) _).setCell (p := ⟨w.heap.size + 1, 1, none⟩) (Nat.le_succ _) _
 | true =>
  obtain ⟨⟨h1, h2, h3⟩, -, hpw⟩ := (rightD_iff bs ps).1 hr
  have x2 : Hid (rightE bs ps = 0) := by show _ = _; unfold rightE; rw [hr]; rfl
  have HP : Hid (IsP w a' c' ps) := hP
  have HS : Hid (IsS w a c bs) := hS
  have HR : Hid (rightD bs ps = true) := hr
  have HW : Hid (∀ p ∈ ps, okW bs.length p = true) := hpw
  have x1 : Hid (flushL bs ps = flushN bs ps ps.length) := by show _ = _; unfold flushL flushN crashL; rw [hr, List.take_length]; rfl
  rw [hr, hW] at c1
  clear hP hS hpw
  go_enter Tryz.func139, Tryz.ntmps139
  go_wp2_with (first
   | (go_at_call 31; refine c1.mono ?_; rintro e w1 ⟨rfl, hb⟩; rw [← hW] at hb; replace d0 := cell_below hb d0; replace d1 := cell_below hb d1; replace e0 := cell_below hb e0; replace e1 := cell_below hb e1; replace f0 := frozen_below hb (by omega) f0; replace f1 := frozen_below hb (by omega) f1; have hB1 := Below.tr hB0 hb; have hs1 := hb.size; clear hb)
   | (go_at_call 84; refine (devClone_any a c bs _ (HS.out.below hB1) h1 h2).mono ?_; rintro e w2 ⟨g, cap, rfl, hg, hrow, hb⟩; replace d0 := cell_below hb d0; replace d1 := cell_below hb d1; replace e0 := cell_below hb e0; replace e1 := cell_below hb e1; replace f0 := frozen_below hb (by omega) f0; replace f1 := frozen_below hb (by omega) f1; have hB2 := Below.tr hB1 hb; have hs2 := hb.size; have HROW : Hid (RowS w2 g cap bs) := hrow; clear hb hrow))
  have hgs : w.heap.size + 1 < g := by omega
  clear c1 HS hW
  go_loopw [17] (fun v wr => ∃ j : Nat, j ≤ ps.length ∧ v = .int .i64 j ∧ RowS wr g cap (flushN bs ps j) ∧ KeptD g w2 wr ∧ Below w.heap.size w wr) (fun v _ => ps.length - (intOf v).toNat)
  case atStart => exact ⟨0, by omega, rfl, HROW.out, KeptD.refl _ _, hB2⟩
  case round =>
   obtain ⟨j, hj, rfl, hrow, hkp, hbel⟩ := hrel
   have HROW2 : Hid (RowS wr g cap (flushN bs ps j)) := hrow
   clear hrow
   by_cases hlt : j < ps.length
   ·
    obtain ⟨p, hx⟩ : ∃ x, ps[j]? = some x := ⟨_, List.getElem?_eq_getElem hlt⟩
    obtain ⟨b, o, rfl, hlb, hc1, hc2, hxs, hlo, hhi⟩ := (hkp.isP HP.out hB2 (by omega)).2.2 j p hx
    obtain ⟨⟨hp0, hp1⟩, -⟩ := (okW_iff _ _).1 (HW.out p (List.mem_of_getElem? hx))
    obtain ⟨k, hk⟩ : ∃ k : Nat, p.1 = k := ⟨p.1.toNat, by omega⟩
    have hkl : k < (flushN bs ps j).length := by rw [flushN_length]; omega
    obtain ⟨hrc, hrf⟩ := HROW2.out.cell (List.getElem?_eq_getElem hkl)
    have hrow' : Hid (∀ o, RowS ((wr.setCell ⟨g, k, none⟩ (.string p.2)).alloc o) g cap (flushN bs ps (j + 1))) := by
     intro o
     rw [flushN_succ HR.out hx, hk]
     exact (HROW2.out.set hkl p.2).below ((Below.refl _ _).alloc (Nat.le_refl _) _)
    have hgl := HROW2.out.lt
    have hrf' := frozen_alloc hgl hrf
    have hlt' : (j : Int) < ps.length := by omega
    have hk1 : (k : Int) < bs.length := by omega
    rw [hk] at hc1
    generalize (flushN bs ps j)[k] = z at hrc
    have hrc' := cell_alloc hrc
    clear hx HROW2 hp0 hp1
    go_wp2
    go_roundw
    case rel => exact ⟨j + 1, by omega, by go_num, hrow'.out _, (hkp.set _ _).below ((Below.refl _ _).alloc (Nat.le_refl _) _), (hbel.setCell (p := ⟨g, k, none⟩) (by show _ ≤ g; omega) _).alloc (by simpa using hbel.size) _⟩
    case measure => simp [intOf]; omega
   ·
    obtain rfl : j = ps.length := by omega
    replace e0 := hkp.cell (by show w.heap.size + 1 ≠ g; omega) e0
    replace e1 := hkp.cell (by show w.heap.size + 1 ≠ g; omega) e1
    replace f0 := hkp.frozen (by show w.heap.size + 1 < w2.heap.size; omega) (by show w.heap.size + 1 ≠ g; omega) f0
    replace f1 := hkp.frozen (by show w.heap.size + 1 < w2.heap.size; omega) (by show w.heap.size + 1 ≠ g; omega) f1
    have hl : (flushN bs ps ps.length).length = bs.length := flushN_length _ _ _
    have HE : Hid (∀ v v', IsS ((wr.setCell ⟨w.heap.size + 1, 0, none⟩ v).setCell ⟨w.heap.size + 1, 1, none⟩ v') (some ⟨g, 0, none⟩) cap (flushN bs ps ps.length)) := by
     intro v v'
     refine (RowS.setOther (RowS.setOther HROW2.out (by omega)) (by omega)).isS ?_
     exact flush_sizes HR.out _ _
    have hBe : Below w.heap.size w wr := hbel
    clear HROW HROW2 hkp HP HW
    go_wp2
    refine bodyPost_ret (v := .tuple #[.agg #[.slice (some ⟨g, 0, none⟩) bs.length cap, .slice none 0 0], .int .i64 0]) (by simp [results, Tryz.results139, go_sem, e0, e1]) rfl ⟨some ⟨g, 0, none⟩, cap, by rw [x1.out, x2.out, hl], by rw [x1.out]; exact HE.out _ _, ?_⟩
    exact (hBe.setCell (p := ⟨w.heap.size + 1, 0, none⟩) (Nat.le_succ _) _).setCell (p := ⟨w.heap.size + 1, 1, none⟩) (Nat.le_succ _) _
def Ends (w : World) (h k : Nat) : Prop := ∀ i, k ≤ i → w.cell? ⟨h, i, none⟩ = none
theorem ends_new (w : World) (vs : List Value) (t : TypeId) {h : Nat} (hh : h = w.heap.size) : Ends (w.alloc (.cells vs.toArray t)) h vs.length := by
 subst hh
 intro i hi
 refine (World.cell?_alloc_at _ _ _ _ rfl).trans ?_
 rw [List.getElem?_toArray, List.getElem?_eq_none hi]
theorem Ends.turns {P : Nat → Prop} {w w' : World} {h k : Nat} (e : Ends w h k) (t : Turns P w w') (hl : h < w.heap.size) (hp : ¬ P h) : Ends w' h k := fun i hi => by
 rw [World.cell?_of_block (w := w) (t.block h hl hp)]
 exact e i hi
theorem ends_set {w : World} {h k i : Nat} {q : Nat} {u : Value} (e : Ends w h k) (hi : i < k) : Ends (w.setCell ⟨q, i, none⟩ u) h k := fun j hj => by
 rw [World.cell?_setCell_other _ _ _ _ (fun hh => by cases hh; omega)]
 exact e j hj
set_option maxRecDepth 20000 in
theorem become_ok (h : Nat) (v0 v1 v2 : Value) (a a' : Option Addr) (n n' c c' : Nat) (w : World) (hx : BoxL w h [v0, v1, v2]) :
  Calls Tryz.prog 137 #[.pointer (some ⟨h, 0, none⟩), .agg #[.slice a n c, .slice a' n' c'], .int .i64 0] w fun e w' => e = .returned (.int .i64 0) ∧ BoxL w' h [.slice a n c, .slice a' n' c', v2] ∧ (Ends w h 3 → Ends w' h 3) ∧ Turns (fun k => k = h) w w' := by
 have bx := boxL_new w [.slice a n c, .slice a' n' c'] 25 rfl
 have hy := hx.alloc (.cells #[.slice a n c, .slice a' n' c'] 25)
 have q0 := hy.1 0 _ rfl
 have q1 := hy.1 1 _ rfl
 have f0 := hy.2 0 (by simp)
 have f1 := hy.2 1 (by simp)
 go_enter Tryz.func137, Tryz.ntmps137
 go_wp2
 go_ret
 exact ⟨rfl, (hy.set 0 _).set 1 _, fun e => ends_set (ends_set (e.turns (P := fun _ => False) ((Turns.refl _ w).alloc _) (hx.lt (by simp)) (fun x => x)) (by omega)) (by omega), (((Turns.refl (fun k => k = h) w).alloc _).setCell (p := ⟨h, 0, none⟩) rfl _).setCell (p := ⟨h, 1, none⟩) rfl _⟩
set_option maxRecDepth 20000 in
theorem become_no (h : Nat) (a a' : Option Addr) (n n' c c' : Nat) (E : Int) (w : World) (hE : ¬ E = 0) :
  Calls Tryz.prog 137 #[.pointer (some ⟨h, 0, none⟩), .agg #[.slice a n c, .slice a' n' c'], .int .i64 E] w fun e w' => e = .returned (.int .i64 E) ∧ Below w.heap.size w w' := by
 go_enter Tryz.func137, Tryz.ntmps137
 go_wp2
 go_ret
 exact ⟨rfl, (Below.refl _ _).alloc (Nat.le_refl _) _⟩
set_option maxRecDepth 20000 in
set_option maxHeartbeats 1000000 in
theorem power_any (h : Nat) (a a' : Option Addr) (n n' c c' : Nat) (l : Int) (w : World) (hx : BoxL w h [.slice a n c, .slice a' n' c', .int .i64 l]) :
  Calls Tryz.prog 45 #[.pointer (some ⟨h, 0, none⟩)] w fun e w' => e = .returned (.agg #[.slice a n c, .slice a' n' c', .int .i64 l]) ∧ Below w.heap.size w w' := by
 have hA : Below w.heap.size w (w.alloc (.cells #[.slice none 0 0, .slice none 0 0, .int .i64 0] 47)).drew := ((Below.refl _ _).alloc (Nat.le_refl _) _).drew
 have hC : Below w.heap.size w (w.alloc (.cells #[.slice a n c, .slice a' n' c', .int .i64 l] 47)).drew := ((Below.refl _ _).alloc (Nat.le_refl _) _).drew
 have hy := hx.below hA
 have hz := hx.below hC
 have q0 := hy.1 0 _ rfl
 have q1 := hy.1 1 _ rfl
 have q2 := hy.1 2 _ rfl
 have z0 := hz.1 0 _ rfl
 have z1 := hz.1 1 _ rfl
 have z2 := hz.1 2 _ rfl
 go_enter Tryz.func45, Tryz.ntmps45
 go_wp2
 go_region_held3 (fun V => V.cell? ⟨h, 0, none⟩ = some (.slice a n c) ∧ V.cell? ⟨h, 1, none⟩ = some (.slice a' n' c') ∧ V.cell? ⟨h, 2, none⟩ = some (.int .i64 l)) (first | with_reducible exact ⟨q0, q1, q2⟩ | with_reducible exact ⟨z0, z1, z2⟩) (fail)
 go_wp2
 exact bodyPost_ret (v := .agg #[.slice a n c, .slice a' n' c', .int .i64 l]) (by simp [results, Tryz.results45, go_sem]) rfl ⟨rfl, hC⟩
theorem append_nil {w : World} (base : Nat) (t ty e : TypeId) (i : TypeInfo) (size m c : Nat) (hm : m = 0) (ht : Tryz.prog.underlying t = some (.slice e)) (hi : Tryz.prog.info? e = some i)
  (v : Value) (n : Nat) (xs : List Value) (hown : w.ownsRow base e size v n xs) :
  (Builtin.append_ #[t, t] ty #[v, .slice none m c]).run Tryz.prog w = .ok v w := by
 subst hm
 rcases hown.2 with ⟨rfl, rfl⟩ | ⟨g, cap, cur, rfl, _, _, hnc, _⟩
 ·
  simp [Builtin.append_, run_underlying ht, sizeOf, typeInfo, hi, Builtin.lenOf, Builtin.firstCells]
 ·
  simp [Builtin.append_, run_underlying ht, sizeOf, typeInfo, hi, Builtin.lenOf, Builtin.firstCells, hnc, storeCells]
theorem IsS.none {w : World} {c : Nat} {l : List ByteArray} (h : IsS w none c l) : l = [] := by
 rcases Nat.eq_zero_or_pos l.length with h0 | h0
 ·
  exact List.length_eq_zero_iff.1 h0
 ·
  obtain ⟨b, o, hh, _⟩ := h.2.2 0 l[0] (List.getElem?_eq_getElem h0)
  cases hh
theorem grown_refl (w : World) (r : Option Nat) : w.grownBy w r := ⟨rfl, rfl, rfl, Nat.le_refl _, fun _ _ _ => rfl⟩
theorem append_S (W : World) (base : Nat) (v : Value) (n : Nat) (l : List ByteArray) (hown : W.ownsRow base 9 1 v n (l.map Value.string)) (hb : base ≤ W.heap.size) (a : Option Addr) (c m : Nat) (ys : List ByteArray) (hm : m = ys.length) (hY : IsS W a c ys) (hn : n + m ≤ 4096) :
  ∃ v' w', (Builtin.append_ #[22, 22] 22 #[v, .slice a m c]).run Tryz.prog W = .ok v' w' ∧
   w'.ownsRow base 9 1 v' (n + m) ((l ++ ys).map Value.string) ∧ W.grownBy w' v.ownBlock ∧ (v'.ownBlock = v.ownBlock ∨ v'.ownBlock = some W.heap.size) := by
 obtain ⟨i0, hi, hz0, hz1, hz2⟩ := info_parts Tryz.info9
 cases a with
 | none =>
  have h0 := hY.none
  subst h0
  have hm0 : m = 0 := hm
  refine ⟨v, W, append_nil base _ _ _ i0 1 m c hm0 Tryz.underlying22 hi _ _ _ hown, ?_, grown_refl _ _, .inl rfl⟩
  rw [hm0, List.append_nil]; exact hown
 | some ad =>
  obtain ⟨v', w', hr, h2, h3, h4, h5⟩ := run_append_own_at (P := Tryz.prog) W base 22 22 9 i0 _ 1 16 Tryz.underlying22 hi hz0 hz1 hz2 rfl (by decide) v n (l.map Value.string) hown ad m c (ys.map Value.string) (by simp [hm])
   (by
    intro j u hj
    rw [List.getElem?_map] at hj
    cases hx : ys[j]? with
    | none => rw [hx] at hj; cases hj
    | some x =>
     rw [hx] at hj
     cases hj
     obtain ⟨b, o, hh, _, hc, _⟩ := hY.2.2 j x hx
     cases hh
     rw [at_add]; exact hc)
   (fun u hu => by obtain ⟨x, _, rfl⟩ := List.mem_map.1 hu; rfl) (by unfold maxLen; omega) (by omega) hb
  exact ⟨v', w', hr, by rw [List.map_append]; exact h2, h3, h5⟩
theorem Tryz.info66 : (Tryz.prog.info? 66).map (fun i => (i.zero, i.size, i.bytes)) = some (some (.agg #[.int .i64 0, .string ⟨#[]⟩]), 2, 24) := by kernel_rfl
def cellsP (ps : List (Int × ByteArray)) : List Value := ps.flatMap fun p => [.int .i64 p.1, .string p.2]
theorem cellsP_cons (p : Int × ByteArray) (ps : List (Int × ByteArray)) : cellsP (p :: ps) = .int .i64 p.1 :: .string p.2 :: cellsP ps := rfl
theorem cellsP_append (ps qs : List (Int × ByteArray)) : cellsP (ps ++ qs) = cellsP ps ++ cellsP qs := by simp [cellsP]
theorem cellsP_length (ps : List (Int × ByteArray)) : (cellsP ps).length = ps.length * 2 := by
 induction ps with
 | nil => rfl
 | cons p ps ih => rw [cellsP_cons, List.length_cons, List.length_cons, ih, List.length_cons]; omega
theorem cellsP_at {ps : List (Int × ByteArray)} {i : Nat} {p : Int × ByteArray} (h : ps[i]? = some p) : (cellsP ps)[i * 2]? = some (.int .i64 p.1) ∧ (cellsP ps)[i * 2 + 1]? = some (.string p.2) := by
 induction ps generalizing i with
 | nil => simp at h
 | cons q ps ih =>
  rw [cellsP_cons]
  cases i with
  | zero =>
   simp at h
   subst h
   exact ⟨rfl, rfl⟩
  | succ i =>
   rw [List.getElem?_cons_succ] at h
   have := ih h
   rw [show (i + 1) * 2 = i * 2 + 1 + 1 by omega]
   exact this
theorem cellsP_get {ps : List (Int × ByteArray)} {j : Nat} {u : Value} (h : (cellsP ps)[j]? = some u) : ∃ i p, ps[i]? = some p ∧ (j = i * 2 ∧ u = .int .i64 p.1 ∨ j = i * 2 + 1 ∧ u = .string p.2) := by
 induction ps generalizing j with
 | nil => simp [cellsP] at h
 | cons q ps ih =>
  rw [cellsP_cons] at h
  match j, h with
  | 0, h => exact ⟨0, q, rfl, .inl ⟨rfl, by simpa using h.symm⟩⟩
  | 1, h => exact ⟨0, q, rfl, .inr ⟨rfl, by simpa using h.symm⟩⟩
  | j + 2, h =>
   obtain ⟨i, p, hp, he⟩ := ih (j := j) (by simpa using h)
   refine ⟨i + 1, p, by simpa using hp, ?_⟩
   rcases he with ⟨rfl, rfl⟩ | ⟨rfl, rfl⟩
   ·
    exact .inl ⟨by omega, rfl⟩
   ·
    exact .inr ⟨by omega, rfl⟩
theorem cellsP_one (ps : List (Int × ByteArray)) : ∀ u ∈ cellsP ps, u.oneCell' = true := by
 intro u hu
 obtain ⟨j, hj⟩ := List.mem_iff_getElem?.1 hu
 obtain ⟨i, p, _, ⟨_, rfl⟩ | ⟨_, rfl⟩⟩ := cellsP_get hj <;> rfl
def okP (p : Int × ByteArray) : Prop := p.2.size ≤ maxLen ∧ -9223372036854775808 ≤ p.1 ∧ p.1 ≤ 9223372036854775807
theorem isP_okP {w : World} {a : Option Addr} {c : Nat} {ps : List (Int × ByteArray)} (h : IsP w a c ps) : ∀ p ∈ ps, okP p := by
 intro p hp
 obtain ⟨j, hj⟩ := List.mem_iff_getElem?.1 hp
 obtain ⟨b, o, _, _, _, _, hr⟩ := h.2.2 j p hj
 exact hr
theorem isP_src {w : World} {ad : Addr} {c : Nat} {ps : List (Int × ByteArray)} (h : IsP w (some ad) c ps) : ∀ j u, (cellsP ps)[j]? = some u → w.cell? (ad.add j) = some u := by
 intro j u hj
 obtain ⟨i, p, hp, he⟩ := cellsP_get hj
 obtain ⟨b', o', ha, _, hc, hc2, _⟩ := h.2.2 i p hp
 cases ha
 rw [at_add]
 rcases he with ⟨rfl, rfl⟩ | ⟨rfl, rfl⟩
 ·
  exact hc
 ·
  exact hc2
theorem owned_isP {w : World} {B g n cap : Nat} {ps : List (Int × ByteArray)} (h : w.ownsRow B 66 2 (.slice (some ⟨g, 0, none⟩) n cap) n (cellsP ps)) (hn : ps.length = n) (hk : ∀ p ∈ ps, okP p) : IsP w (some ⟨g, 0, none⟩) cap ps := by
 have hlt := (h.lt g rfl).2
 have hcell := h.cellAt
 obtain ⟨_, hr⟩ := h
 rcases hr with ⟨h', _⟩ | ⟨g', cap', cur, h', _, hg, hnc, hcm, _⟩
 ·
  cases h'
 ·
  cases h'
  refine ⟨by omega, hcm, fun j p hp => ⟨g, 0, rfl, hlt, ?_, ?_, hk p (List.mem_of_getElem? hp)⟩⟩
  ·
   have hj := (List.getElem?_eq_some_iff.1 hp).1
   rw [Nat.zero_add, hcell (j * 2) (by omega)]
   exact (cellsP_at hp).1
  ·
   have hj := (List.getElem?_eq_some_iff.1 hp).1
   rw [Nat.zero_add, hcell (j * 2 + 1) (by omega)]
   exact (cellsP_at hp).2
theorem isP_set {w : World} {g h i c : Nat} {ps : List (Int × ByteArray)} (v : Value) (hr : IsP w (some ⟨g, 0, none⟩) c ps) (hn : g ≠ h) : IsP (w.setCell ⟨h, i, none⟩ v) (some ⟨g, 0, none⟩) c ps := by
 refine ⟨hr.1, hr.2.1, fun j p hp => ?_⟩
 obtain ⟨b, o, ha, hlt, hc, hc2, hk⟩ := hr.2.2 j p hp
 cases ha
 exact ⟨g, 0, rfl, by simpa using hlt, by rw [World.cell?_setCell_other _ _ _ _ (fun hh => hn (by cases hh; rfl))]; exact hc, by rw [World.cell?_setCell_other _ _ _ _ (fun hh => hn (by cases hh; rfl))]; exact hc2, hk⟩
theorem devRun_append_none {w : World} (base : Nat) (t ty e : TypeId) (i : TypeInfo) (size m c : Nat) (hm : m = 0) (ht : Tryz.prog.underlying t = some (.slice e)) (hi : Tryz.prog.info? e = some i)
  (v : Value) (n : Nat) (xs : List Value) (hown : w.ownsRow base e size v n xs) :
  (Builtin.append_ #[t, t] ty #[v, .slice none m c]).run Tryz.prog w = .ok v w := by
 subst hm
 rcases hown.2 with ⟨rfl, rfl⟩ | ⟨g, cap, cur, rfl, _, _, hnc, _⟩
 ·
  simp [Builtin.append_, run_underlying ht, sizeOf, typeInfo, hi, Builtin.lenOf, Builtin.firstCells]
 ·
  simp [Builtin.append_, run_underlying ht, sizeOf, typeInfo, hi, Builtin.lenOf, Builtin.firstCells, hnc, storeCells]
set_option maxHeartbeats 2000000 in
set_option maxRecDepth 100000 in
theorem grow_any (n : Nat) (w : World) (h1 : 1 ≤ n) (h2 : n ≤ 2048) :
  Calls Tryz.prog 175 #[.slice none 0 0, .int .i64 n] w fun e w' => ∃ cap, e = .returned (.slice (some ⟨w.heap.size, 0, none⟩) 0 cap) ∧ w'.ownsRow w.heap.size 66 2 (.slice (some ⟨w.heap.size, 0, none⟩) 0 cap) 0 [] ∧ Below w.heap.size w w' := by
 obtain ⟨i0, hi, hz0, hz1, hz2⟩ := info_parts Tryz.info66
 obtain ⟨G, hG⟩ : ∃ G, G = grownCap w n 0 66 := ⟨_, rfl⟩
 obtain ⟨Z, hZ⟩ : ∃ Z, Z = Builtin.zeroCells (Value.agg #[.int .i64 0, .string ⟨#[]⟩]).cells n ++ Builtin.zeroCells (Value.agg #[.int .i64 0, .string ⟨#[]⟩]).cells (G - n) := ⟨_, rfl⟩
 have hGn : n ≤ G := by rw [hG]; exact grownCap_ge w _ _ _
 have hGm : G ≤ maxLen := by rw [hG]; exact grownCap_le_maxLen w n 0 _ (by unfold maxLen; omega)
 have hZs : Hid (Z.size = G * 2) := by
  show _ = _
  rw [hZ, Array.size_append]
  have hc : (Value.agg #[.int .i64 0, .string ⟨#[]⟩]).cells.size = 2 := by rfl
  simp only [Builtin.zeroCells, Array.size_map, Array.size_range, hc]
  omega
 have hrz : ∀ ty, (Builtin.append_ #[23, 3] ty #[.slice none 0 0, .int .i64 n]).run Tryz.prog w = .ok (.slice (some ⟨w.heap.size, 0, none⟩) n G) (w.drew.alloc (.cells Z 66)) := fun ty => by
  have := Lib.run_append_nil_zeros (P := Tryz.prog) w 23 3 ty 66 i0 _ .i64 .i64 Tryz.underlying23 Tryz.underlying3 hi hz0 n (by omega) (by omega) (by omega) (by rw [hz2]; omega)
  rw [← hG, ← hZ] at this
  exact this
 have hG63 : G ≤ 9223372036854775807 := hGm
 have h1' : (1 : Int) ≤ n := by omega
 have h2' : (n : Int) ≤ 2048 := by omega
 clear hZ hG
 go_enter Tryz.func175, Tryz.ntmps175
 go_wp2_with (at_builtin; refine Lib.wpList_append_run _ rfl _ _ _ _ rfl _ _ rfl rfl _ _ (hrz _) ?_)
 all_goals (go_ret; exact ⟨G, rfl, ⟨rfl, .inr ⟨w.heap.size, G, Z, rfl, Nat.le_refl _, World.alloc_heap_new w.drew _, Nat.zero_le _, hGm, hZs.out, rfl⟩⟩, (Below.refl _ _).drew.alloc (Nat.le_refl _) _⟩)
set_option maxHeartbeats 4000000 in
set_option maxRecDepth 100000 in
theorem concat_any (a' : Option Addr) (c' g1 g2 : Nat) (ps : List (Int × ByteArray)) (q : Int × ByteArray) (w : World) (hP : IsP w a' c' ps) (hQ : IsP w (some ⟨g1, 0, none⟩) 1 [q]) (hl : ps.length ≤ 2047)
  (s0 : w.cell? ⟨g2, 0, none⟩ = some (.slice a' ps.length c')) (s1 : w.cell? ⟨g2, 1, none⟩ = some (.slice (some ⟨g1, 0, none⟩) 1 1)) :
  Calls Tryz.prog 161 #[.slice (some ⟨g2, 0, none⟩) 2 2] w fun e w' => ∃ g cap, e = .returned (.slice (some ⟨g, 0, none⟩) (ps.length + 1) cap) ∧ w.heap.size ≤ g ∧ IsP w' (some ⟨g, 0, none⟩) cap (ps ++ [q]) ∧ Below w.heap.size w w' := by
 obtain ⟨i0, hi, hz0, hz1, hz2⟩ := info_parts Tryz.info66
 have HP : Hid (IsP w a' c' ps) := hP
 have HQ : Hid (IsP w (some ⟨g1, 0, none⟩) 1 [q]) := hQ
 have HK : Hid (∀ p ∈ ps ++ [q], okP p) := by
  intro p hp
  rcases List.mem_append.1 hp with h | h
  ·
   exact isP_okP hP p h
  ·
   exact isP_okP hQ p h
 obtain ⟨n, hn⟩ : ∃ n, n = ps.length := ⟨_, rfl⟩
 have Hn : Hid (ps.length = n) := hn.symm
 rw [← hn] at hl s0 ⊢
 clear hP hQ hn
 have hl' : (n : Int) ≤ 2047 := by omega
 go_enter Tryz.func161, Tryz.ntmps161
 go_wp2
 go_loop [3, 11] (fun s v => (v = .int .i64 0 ∧ s = .int .i64 0) ∨ (v = .int .i64 1 ∧ s = .int .i64 n) ∨ (v = .int .i64 2 ∧ s = .int .i64 ((n : Int) + 1))) (fun _ v => 2 - (intOf v).toNat)
 case atStart => exact .inl ⟨rfl, rfl⟩
 case round =>
  rcases hrel with ⟨rfl, rfl⟩ | ⟨rfl, rfl⟩ | ⟨rfl, rfl⟩
  ·
   go_wp2
   go_round
   case rel => exact .inr (.inl ⟨by go_num, by go_num⟩)
   case measure => simp [intOf]
  ·
   go_wp2
   go_round
   case rel => exact .inr (.inr ⟨by go_num, by go_num⟩)
   case measure => simp [intOf]
  ·
   have c1 := grow_any (n + 1) w (by omega) (by omega)
   rw [show ((n + 1 : Nat) : Int) = (n : Int) + 1 by omega] at c1
   go_wp2_with (go_at_call 175; refine c1.mono ?_; rintro e w1 ⟨cap, rfl, hown, hb⟩)
   go_loopw [6, 27] (fun v i wr => ∃ k xs, ((i = .int .i64 0 ∧ k = 0 ∧ xs = []) ∨ (i = .int .i64 1 ∧ k = n ∧ xs = cellsP ps) ∨ (i = .int .i64 2 ∧ k = n + 1 ∧ xs = cellsP (ps ++ [q]))) ∧ (∃ g cap, v = .slice (some ⟨g, 0, none⟩) k cap) ∧ wr.ownsRow w.heap.size 66 2 v k xs ∧ Below w.heap.size w wr) (fun _ v _ => 2 - (intOf v).toNat)
   case atStart => exact ⟨0, [], .inl ⟨rfl, rfl, rfl⟩, ⟨_, _, rfl⟩, hown, hb⟩
   case round =>
    obtain ⟨k, xs, hc, ⟨g, cp, rfl⟩, hown2, hbel⟩ := hrel
    clear hown hb c1
    rcases hc with ⟨rfl, rfl, rfl⟩ | ⟨rfl, rfl, rfl⟩ | ⟨rfl, rfl, rfl⟩
    ·
     replace s0 := cell_below hbel s0
     have HPr : Hid (IsP wr a' c' ps) := HP.out.below hbel
     have hgw := (hown2.lt g rfl).1
     cases a' with
     | none =>
      have hn0 : n = 0 := by
       rcases Nat.eq_zero_or_pos ps.length with h | h
       ·
        rw [← Hn.out]; exact h
       ·
        obtain ⟨b, o, hh⟩ := HP.out.some h
        cases hh
      have hrn := fun ty => devRun_append_none w.heap.size 23 ty 66 i0 2 n c' hn0 Tryz.underlying23 hi _ _ _ hown2
      have HO : Hid (wr.ownsRow w.heap.size 66 2 (.slice (some ⟨g, 0, none⟩) 0 cp) n (cellsP ps)) := by
       show World.ownsRow _ _ _ _ _ _ _
       rw [hn0, List.length_eq_zero_iff.1 (Hn.out.trans hn0)]
       exact hown2
      have Hn0 : Hid (n = 0) := hn0
      clear hn0 hown2
      go_wp2_with (at_builtin; refine Lib.wpList_append_run _ rfl _ _ _ _ rfl _ _ rfl rfl _ _ (hrn _) ?_)
      go_roundw
      case rel => exact ⟨n, _, .inr (.inl ⟨by go_num, rfl, rfl⟩), ⟨g, cp, by rw [Hn0.out]⟩, HO.out, hbel⟩
      case measure => simp [intOf]
     | some ad =>
      go_wp2_with (at_builtin; refine wpList_append_own _ rfl _ _ 23 rfl w.heap.size 66 i0 _ 2 24 Tryz.underlying23 hi hz0 hz1 hz2 rfl (by decide) _ _ _ rfl hown2 ad n c' (cellsP ps) rfl ?qc1 ?qc2 ?qc3 ?qc4 ?qc5 ?qc6 ?_)
      case qc1 => rw [cellsP_length, Hn.out]
      case qc2 => exact isP_src HPr.out
      case qc3 => exact cellsP_one ps
      case qc4 => unfold maxLen; omega
      case qc5 => omega
      case qc6 => exact hbel.size
      intro v' w2 hown3 hgrow hnil
      have hb2 : Below w.heap.size w w2 := hbel.grown hgrow hbel.size (by intro k hk; simp [Value.ownBlock] at hk; omega)
      obtain ⟨g', cap', rfl⟩ : ∃ g cap, v' = .slice (some ⟨g, 0, none⟩) n cap := by
       rcases hown3.2 with ⟨h, _⟩ | ⟨g, cap, cur, h, _⟩
       ·
        exact absurd h hnil
       ·
        exact ⟨g, cap, h⟩
      have HO : Hid (w2.ownsRow w.heap.size 66 2 (.slice (some ⟨g', 0, none⟩) n cap') n (cellsP ps)) := hown3
      clear hown3 hown2 hnil hgrow
      go_wp2
      go_roundw
      case rel => exact ⟨n, _, .inr (.inl ⟨by go_num, rfl, rfl⟩), ⟨_, _, rfl⟩, HO.out, hb2⟩
      case measure => simp [intOf]
    ·
     replace s1 := cell_below hbel s1
     have HPr : Hid (IsP wr (some ⟨g1, 0, none⟩) 1 [q]) := HQ.out.below hbel
     have hgw := (hown2.lt g rfl).1
     go_wp2_with (at_builtin; refine wpList_append_own _ rfl _ _ 23 rfl w.heap.size 66 i0 _ 2 24 Tryz.underlying23 hi hz0 hz1 hz2 rfl (by decide) _ _ _ rfl hown2 ⟨g1, 0, none⟩ 1 1 (cellsP [q]) rfl ?qc1 ?qc2 ?qc3 ?qc4 ?qc5 ?qc6 ?_)
     case qc1 => rfl
     case qc2 => exact isP_src HPr.out
     case qc3 => exact cellsP_one _
     case qc4 => unfold maxLen; omega
     case qc5 => omega
     case qc6 => exact hbel.size
     intro v' w2 hown3 hgrow hnil
     have hb2 : Below w.heap.size w w2 := hbel.grown hgrow hbel.size (by intro k hk; simp [Value.ownBlock] at hk; omega)
     obtain ⟨g', cap', rfl⟩ : ∃ g cap, v' = .slice (some ⟨g, 0, none⟩) (k + 1) cap := by
      rcases hown3.2 with ⟨h, _⟩ | ⟨g, cap, cur, h, _⟩
      ·
       exact absurd h hnil
      ·
       exact ⟨g, cap, h⟩
     rw [← cellsP_append] at hown3
     have HO : Hid (w2.ownsRow w.heap.size 66 2 (.slice (some ⟨g', 0, none⟩) (k + 1) cap') (k + 1) (cellsP (ps ++ [q]))) := hown3
     clear hown3 hown2 hnil hgrow
     go_wp2
     go_roundw
     case rel => exact ⟨k + 1, _, .inr (.inr ⟨by go_num, rfl, rfl⟩), ⟨_, _, rfl⟩, HO.out, hb2⟩
     case measure => simp [intOf]
    ·
     have HI : Hid (IsP wr (some ⟨g, 0, none⟩) cp (ps ++ [q])) := owned_isP hown2 (by rw [List.length_append, Hn.out]; rfl) HK.out
     have hgw := (hown2.lt g rfl).1
     clear hown2
     go_wp2
     go_ret
     exact ⟨g, cp, rfl, hgw, HI.out, hbel⟩
def noText (v : Value) : Prop := ∀ s, v ≠ .string s
theorem offText {w : World} {h i : Nat} {vs : List Value} {s : ByteArray} (b : BoxL w h vs) (e : Ends w h vs.length) (hv : ∀ v ∈ vs, noText v) (hc : w.cell? ⟨h, i, none⟩ = some (.string s)) : False := by
 by_cases hi : i < vs.length
 ·
  have := b.1 i _ (List.getElem?_eq_getElem hi)
  rw [this] at hc
  exact hv _ (List.getElem_mem hi) s (Option.some.inj hc)
 ·
  rw [e i (by omega)] at hc
  cases hc
theorem isS_offText {w : World} {a : Option Addr} {c h : Nat} {bs : List ByteArray} {vs : List Value} (hI : IsS w a c bs) (b : BoxL w h vs) (e : Ends w h vs.length) (hv : ∀ v ∈ vs, noText v) {w' : World} (t : Turns (fun k => k = h) w w') : IsS w' a c bs := by
 refine ⟨hI.1, hI.2.1, fun j x hx => ?_⟩
 obtain ⟨k, o, ha, hlt, hc, hs⟩ := hI.2.2 j x hx
 refine ⟨k, o, ha, Nat.lt_of_lt_of_le hlt t.size, t.cell (p := ⟨k, o + j, none⟩) (fun hk => ?_) hc, hs⟩
 have hk' : k = h := hk
 subst hk'
 exact offText b e hv hc
theorem isP_offText {w : World} {a : Option Addr} {c h : Nat} {ps : List (Int × ByteArray)} {vs : List Value} (hI : IsP w a c ps) (b : BoxL w h vs) (e : Ends w h vs.length) (hv : ∀ v ∈ vs, noText v) {w' : World} (t : Turns (fun k => k = h) w w') : IsP w' a c ps := by
 refine ⟨hI.1, hI.2.1, fun j p hp => ?_⟩
 obtain ⟨k, o, ha, hlt, hc, hc2, hr⟩ := hI.2.2 j p hp
 have hk : ¬ k = h := by
  intro hk'
  subst hk'
  exact offText b e hv hc2
 exact ⟨k, o, ha, Nat.lt_of_lt_of_le hlt t.size, t.cell hk hc, t.cell hk hc2, hr⟩
set_option maxRecDepth 20000 in
set_option maxHeartbeats 1000000 in
theorem cloneT_any (a : Option Addr) (c n : Nat) (l : List ByteArray) (w : World) (hn : n = l.length) (hB : IsS w a c l) (h2 : n ≤ 4096) :
  Calls Tryz.prog 84 #[.slice a n c] w fun e w' => ∃ x cap, e = .returned (.slice x n cap) ∧ IsS w' x cap l ∧ Below w.heap.size w w' := by
 have q : ∀ (w : World) (a : Option Addr) (n c n' c' : Nat), (binOp .eql 22 (.slice a n c) (.slice none n' c')).run Tryz.prog w = .ok (.bool a.isNone) w := fun w a n c n' c' => Lib.run_eql_slice_nil w _ _ a n c n' c' Tryz.underlying22
 cases a with
 | none =>
  have h0 := hB.none
  subst h0
  have hn0 : n = 0 := hn
  subst hn0
  clear hn hB
  go_enter Tryz.func84, Tryz.ntmps84
  go_wp2
  go_ret
  exact ⟨none, 0, rfl, IsS_nil _, Below.refl _ _⟩
 | some ad =>
  have hB0 := (Below.refl w.heap.size w).alloc (Nat.le_refl _) (.cells #[] 9)
  obtain ⟨v', w', hrun, hown, hgrow, hblk⟩ := append_S (w.alloc (.cells #[] 9)) w.heap.size (.slice (some ⟨w.heap.size, 0, none⟩) 0 0) 0 [] (World.ownsRow_made w #[] 0 (Nat.le_refl _) (Nat.zero_le _) rfl) (by simp) (some ad) c n l hn (hB.below hB0) (by omega)
  obtain ⟨x, cap, rfl, e, hI, hF⟩ := owns_S hown (fun x hx => by
   simp only [List.nil_append] at hx
   obtain ⟨j, hj⟩ := List.getElem?_of_mem hx
   obtain ⟨_, _, _, _, _, h⟩ := hB.2.2 j x hj
   exact h)
  simp only [List.nil_append, Nat.zero_add] at hI hrun
  have HB : Hid (IsS w' x cap l ∧ Below w.heap.size w w') := ⟨hI, hB0.grown hgrow (by simp) (by intro k hk; simp [Value.ownBlock] at hk; omega)⟩
  clear hI hgrow hblk hown e hF hB hn hB0
  go_enter Tryz.func84, Tryz.ntmps84
  go_wp2_with (at_builtin; refine Lib.wpList_append_run _ rfl _ _ _ _ rfl _ _ rfl rfl _ _ hrun ?_)
  go_ret
  exact ⟨x, cap, rfl, HB.out.1, HB.out.2⟩
set_option maxRecDepth 20000 in
set_option maxHeartbeats 1000000 in
theorem cloneW_any (a : Option Addr) (c n : Nat) (l : List (Int × ByteArray)) (w : World) (hn : n = l.length) (hB : IsP w a c l) (h2 : n ≤ 4096) :
  Calls Tryz.prog 85 #[.slice a n c] w fun e w' => ∃ x cap, e = .returned (.slice x n cap) ∧ IsP w' x cap l ∧ Below w.heap.size w w' := by
 have q : ∀ (w : World) (a : Option Addr) (n c n' c' : Nat), (binOp .eql 23 (.slice a n c) (.slice none n' c')).run Tryz.prog w = .ok (.bool a.isNone) w := fun w a n c n' c' => Lib.run_eql_slice_nil w _ _ a n c n' c' Tryz.underlying23
 cases a with
 | none =>
  have h0 : l = [] := by
   cases l with
   | nil => rfl
   | cons p l => obtain ⟨_, _, e, _⟩ := hB.2.2 0 p rfl; cases e
  subst h0
  have hn0 : n = 0 := hn
  subst hn0
  clear hn hB
  go_enter Tryz.func85, Tryz.ntmps85
  go_wp2
  go_ret
  exact ⟨none, 0, rfl, IsP_nil _, Below.refl _ _⟩
 | some ad =>
  obtain ⟨i0, hi, hz0, hz1, hz2⟩ := info_parts Tryz.info66
  have hown := World.ownsRow_made (base := w.heap.size) (e := 66) (size := 2) w #[] 0 (Nat.le_refl _) (Nat.zero_le _) rfl
  have hB0 := (Below.refl w.heap.size w).alloc (Nat.le_refl _) (.cells #[] 66)
  obtain ⟨v', w', hrun, p2, p3, p4⟩ := run_append_own (P := Tryz.prog) (w.alloc (.cells #[] 66)) w.heap.size 23 23 66 i0 _ 2 24 Tryz.underlying23 hi hz0 hz1 hz2 rfl (by decide) _ 0 _ hown ad n c (cellsP l) (by rw [cellsP_length, hn]) (isP_src (hB.below hB0)) (cellsP_one l) (by have := hB.1; have := hB.2.1; unfold maxLen at *; omega) (by omega) (by simp)
  simp only [Nat.zero_add] at p2 hrun
  have hk := isP_okP hB
  rcases p2.2 with ⟨e, h0⟩ | ⟨g, cap, cur, e, hg, hcur, hnc, hcm, hsz, htk⟩
  ·
   exact absurd (p4.1 e).1 (by simp)
  ·
   subst e
   have hI : IsP w' (some ⟨g, 0, none⟩) cap l := owned_isP (B := w.heap.size) (n := n) (by simpa using p2) hn.symm hk
   have HB : Hid (IsP w' (some ⟨g, 0, none⟩) cap l ∧ Below w.heap.size w w') := ⟨hI, hB0.grown p3 (by simp) (by intro k hk; simp [Value.ownBlock] at hk; omega)⟩
   clear hI p2 p3 p4 hcur hnc hcm hsz htk hown hB0 hB hg hn hk
   go_enter Tryz.func85, Tryz.ntmps85
   go_wp2_with (at_builtin; refine Lib.wpList_append_run _ rfl _ _ _ _ rfl _ _ rfl rfl _ _ hrun ?_)
   go_ret
   exact ⟨some ⟨g, 0, none⟩, cap, rfl, HB.out.1, HB.out.2⟩
end Go.Proofs.YtaobfgplheoefaaGreat
namespace Go.Proofs.YtaobfgplheoefaaGreat.Anylast
open Go
theorem op_value {P : Program} {ops : Array Oper} {Q : Exit → Act → World → Prop} {i : Nat} {o : Oper} {a : Act} {w w' : World} {v : Value} {V : Nat → Value → World → Prop} {S : World → Prop} {R : World → World → Prop} (hi : ops[i]? = some o) (hw : Region.wanted o (yielded ops a.tmps) = true)
  (hr : (execOp a.eval o).run P w = .ok (.value v) w') (hV : V i v w') (hS : S w') (hR : R w w') :
  wpOp P ops Q i (fun a' w' => ∃ v, a' = a.put o.dst v ∧ V i v w' ∧ S w' ∧ R w w') a w := by
 unfold wpOp
 simp only [hi, hw, if_true]
 refine .inl ?_
 unfold Oper.wp
 rw [hr]
 exact ⟨v, rfl, hV, hS, hR⟩
theorem op_call {P : Program} {ops : Array Oper} {Q : Exit → Act → World → Prop} {i : Nat} {o : Oper} {a : Act} {w w' : World} {f : FuncId} {args : Array Value} {V : Nat → Value → World → Prop} {S : World → Prop} {R : World → World → Prop} (hi : ops[i]? = some o) (hw : Region.wanted o (yielded ops a.tmps) = true)
  (hr : (execOp a.eval o).run P w = .ok (.enter f args) w')
  (hc : Calls P f args w' fun e w'' => ∃ v, e = .returned v ∧ V i v w'' ∧ S w'' ∧ R w w'') :
  wpOp P ops Q i (fun a' w' => ∃ v, a' = a.put o.dst v ∧ V i v w' ∧ S w' ∧ R w w') a w := by
 unfold wpOp
 simp only [hi, hw, if_true]
 refine .inl ?_
 unfold Oper.wp
 rw [hr]
 refine Calls.mono hc ?_
 rintro e w'' ⟨v, rfl, hV, hS, hR⟩
 exact ⟨v, rfl, hV, hS, hR⟩
def lasts (ops : Array Oper) (l : Nat) : Bool :=
 match ops[l]? with
 | some o => (List.range ops.size).all fun i => i == l || waits o i
 | none => false
theorem lasts_spec {ops : Array Oper} {l : Nat} (h : lasts ops l = true) : ∃ o, ops[l]? = some o ∧ ∀ i, i < ops.size → i ≠ l → ∃ e ∈ o.after, Region.binds .any e = true ∧ e.on = i := by
 unfold lasts at h
 split at h
 ·
  rename_i o ho
  refine ⟨o, ho, fun i hi hn => ?_⟩
  rw [List.all_eq_true] at h
  have := h i (List.mem_range.2 hi)
  rw [← waits_spec]
  simpa [hn] using this
 ·
  cases h
theorem region_last {P : Program} {ops : Array Oper} {Q : Exit → Act → World → Prop} {id : Nat} {a0 : Act} {w0 : World} (hm : P.follows .mixedOrders = true) (l : Nat) (V : Nat → Value → World → Prop) (S T : World → Prop) (R : World → World → Prop)
  (hfit : fit ops a0.tmps.size = true) (hlast : lasts ops l = true)
  (hmono : ∀ i v w w', R w w' → V i v w → V i v w')
  (hS : S w0.drew)
  (hstep : ∀ i o, ops[i]? = some o → ∀ a w, S w → a.defers = a0.defers → a.tmps.size = a0.tmps.size →
   (∀ j oj d, ops[j]? = some oj → oj.dst = some d → waits o j = true → ∃ v, a.tmps[d]? = some v ∧ V j v w) →
   (∀ d, free ops i d = true → a.tmps[d]? = a0.tmps[d]?) →
   wpOp P ops Q i (fun a' w' => ∃ v, a' = a.put o.dst v ∧ V i v w' ∧ (if i = l then T else S) w' ∧ R w w') a w)
  (hdone : ∀ a w, T w → a.defers = a0.defers → a.tmps.size = a0.tmps.size →
   (∀ d, (∀ (j : Nat) (oj : Oper), ops[j]? = some oj → oj.dst ≠ some d) → a.tmps[d]? = a0.tmps[d]?) →
   (∀ j oj d, ops[j]? = some oj → oj.dst = some d → ∃ v, a.tmps[d]? = some v ∧ V j v w) → Q .normal a w) :
  (Code.region id ops true).wp P Q a0 w0 := by
 obtain ⟨ol, hol, hwl⟩ := lasts_spec hlast
 have hll : l < ops.size := (Array.getElem?_eq_some_iff.1 hol).1
 refine region_inv hm V (fun listed w => if listed.getD l false = true then T w else S w) R hfit hmono ?_ ?_ ?_
 ·
  have hf : (Array.replicate ops.size false).getD l false = false := by
   simp only [Array.getD_eq_getD_getElem?, Array.getElem?_replicate]
   split <;> rfl
  simp only [hf, Bool.false_eq_true, if_false]
  exact hS
 ·
  intro i o ho listed a w hil h0 hcl _ hs hdf hsz hdep hsame
  have hnl : listed.getD l false = false := by
   by_cases hi : i = l
   ·
    rw [← hi]; exact h0
   ·
    cases hc : listed.getD l false with
    | false => rfl
    | true =>
     obtain ⟨e, he, hb, hei⟩ := hwl i (Array.getElem?_eq_some_iff.1 ho).1 hi
     have := hcl l ol hol hc e he hb
     rw [hei, h0] at this
     cases this
  simp only [hnl, Bool.false_eq_true, if_false] at hs
  refine wpOp_mono ?_ (hstep i o ho a w hs hdf hsz hdep hsame)
  rintro a' w' ⟨v, h1, h2, h3, h4⟩
  refine ⟨v, h1, h2, ?_, h4⟩
  show if _ then _ else _
  rw [getD_set _ _ _ hil]
  by_cases hi : l = i
  ·
   rw [if_pos hi, if_pos rfl]
   rw [if_pos hi.symm] at h3
   exact h3
  ·
   rw [if_neg hi, if_neg (by rw [hnl]; decide)]
   rw [if_neg (fun h => hi h.symm)] at h3
   exact h3
 ·
  intro listed a w hall hs
  rw [if_pos (hall l hll)] at hs
  exact hdone a w hs
theorem region_vals {P : Program} {ops : Array Oper} {Q : Exit → Act → World → Prop} {id : Nat} {a0 : Act} {w0 : World} (hm : P.follows .mixedOrders = true) (l : Nat) (val : Nat → Value) (S T : World → Prop)
  (hfit : fit ops a0.tmps.size = true) (hlast : lasts ops l = true)
  (hS : S w0.drew)
  (hstep : ∀ i o, ops[i]? = some o → ∀ a w, S w → a.defers = a0.defers → a.tmps.size = a0.tmps.size →
   (∀ j oj d, ops[j]? = some oj → oj.dst = some d → waits o j = true → a.tmps[d]? = some (val j)) →
   (∀ d, free ops i d = true → a.tmps[d]? = a0.tmps[d]?) →
   wpOp P ops Q i (fun a' w' => ∃ v, a' = a.put o.dst v ∧ (o.dst.isSome = true → v = val i) ∧ (if i = l then T else S) w' ∧ True) a w)
  (n : Nat) (hn : ops.size = n) (hdone : ∀ w, T w → Q .normal ⟨filledN ops val a0.tmps n, a0.defers⟩ w) :
  (Code.region id ops true).wp P Q a0 w0 := by
 refine region_last hm l (fun i v _ => ∀ o, ops[i]? = some o → o.dst.isSome = true → v = val i) S T (fun _ _ => True) hfit hlast (fun i v w w' _ h => h) hS ?_ ?_
 ·
  intro i o ho a w hs hdf hsz hdep hsame
  refine wpOp_mono ?_ (hstep i o ho a w hs hdf hsz ?_ hsame)
  ·
   rintro a' w' ⟨v, h1, h2, h3, _⟩
   refine ⟨v, h1, fun o' ho' hd' => ?_, h3, trivial⟩
   rw [ho] at ho'
   cases ho'
   exact h2 hd'
  ·
   intro j oj d hj hd hw
   obtain ⟨v, hv, hV⟩ := hdep j oj d hj hd hw
   rw [hv, hV oj hj (by rw [hd]; rfl)]
 ·
  intro a w ht hdf hsz hsame hval
  have e : a = ⟨filledN ops val a0.tmps ops.size, a0.defers⟩ := by
   obtain ⟨tm, df⟩ := a
   simp only at hdf hsz hsame hval
   subst hdf
   congr 1
   apply Array.ext_getElem?
   intro d
   by_cases hx : ∃ (j : Nat) (oj : Oper), ops[j]? = some oj ∧ oj.dst = some d
   ·
    obtain ⟨j, oj, hj, hd⟩ := hx
    obtain ⟨v, hv, hV⟩ := hval j oj d hj hd
    rw [hv, hV oj hj (by rw [hd]; rfl)]
    obtain ⟨hdl, hun⟩ := (fit_spec hfit hj).2 d hd
    exact (filledN_some hj hd hdl (fun i oi hi hdi => hun i oi hi hdi) _ (Array.getElem?_eq_some_iff.1 hj).1).symm
   ·
    rw [hsame d fun j oj hj hd => hx ⟨j, oj, hj, hd⟩]
    exact (filledN_none _ fun j oj _ hj hd => hx ⟨j, oj, hj, hd⟩).symm
  rw [e, hn]
  exact hdone w ht
end Go.Proofs.YtaobfgplheoefaaGreat.Anylast
namespace Go.Proofs.YtaobfgplheoefaaGreat.Anyact
open Go Anylast
set_option linter.unusedVariables false
def Amid (ops : Array Oper) (a0 : Act) (V : Nat → Value → World → Prop) (S : Array Bool → Act → World → Prop) (listed : Array Bool) (a : Act) (w : World) : Prop :=
 (S listed a w) ∧
 (a.defers = a0.defers) ∧
 (a.tmps.size = a0.tmps.size) ∧
 (listed.size = ops.size) ∧
 (∀ (j : Nat) (oj : Oper), ops[j]? = some oj → listed.getD j false = true → ∀ e ∈ oj.after, Region.binds .any e = true → listed.getD e.on false = true) ∧
 (∀ d : Nat, (∀ (j : Nat) (oj : Oper), ops[j]? = some oj → oj.dst = some d → listed.getD j false = false) → a.tmps[d]? = a0.tmps[d]?) ∧
 (∀ (j : Nat) (oj : Oper) (d : Nat), ops[j]? = some oj → oj.dst = some d → listed.getD j false = true → ∃ v, a.tmps[d]? = some v ∧ V j v w)
theorem Amid.held {ops : Array Oper} {a0 : Act} {V : Nat → Value → World → Prop} {S : Array Bool → Act → World → Prop} {listed : Array Bool} {a : Act} {w : World} (h : Amid ops a0 V S listed a w) : S listed a w := h.1
theorem Amid.defers {ops : Array Oper} {a0 : Act} {V : Nat → Value → World → Prop} {S : Array Bool → Act → World → Prop} {listed : Array Bool} {a : Act} {w : World} (h : Amid ops a0 V S listed a w) : a.defers = a0.defers := h.2.1
theorem Amid.size {ops : Array Oper} {a0 : Act} {V : Nat → Value → World → Prop} {S : Array Bool → Act → World → Prop} {listed : Array Bool} {a : Act} {w : World} (h : Amid ops a0 V S listed a w) : a.tmps.size = a0.tmps.size := h.2.2.1
theorem Amid.lsize {ops : Array Oper} {a0 : Act} {V : Nat → Value → World → Prop} {S : Array Bool → Act → World → Prop} {listed : Array Bool} {a : Act} {w : World} (h : Amid ops a0 V S listed a w) : listed.size = ops.size := h.2.2.2.1
theorem Amid.closed {ops : Array Oper} {a0 : Act} {V : Nat → Value → World → Prop} {S : Array Bool → Act → World → Prop} {listed : Array Bool} {a : Act} {w : World} (h : Amid ops a0 V S listed a w) : ∀ (j : Nat) (oj : Oper), ops[j]? = some oj → listed.getD j false = true → ∀ e ∈ oj.after, Region.binds .any e = true → listed.getD e.on false = true := h.2.2.2.2.1
theorem Amid.same {ops : Array Oper} {a0 : Act} {V : Nat → Value → World → Prop} {S : Array Bool → Act → World → Prop} {listed : Array Bool} {a : Act} {w : World} (h : Amid ops a0 V S listed a w) : ∀ d : Nat, (∀ (j : Nat) (oj : Oper), ops[j]? = some oj → oj.dst = some d → listed.getD j false = false) → a.tmps[d]? = a0.tmps[d]? := h.2.2.2.2.2.1
theorem Amid.val {ops : Array Oper} {a0 : Act} {V : Nat → Value → World → Prop} {S : Array Bool → Act → World → Prop} {listed : Array Bool} {a : Act} {w : World} (h : Amid ops a0 V S listed a w) : ∀ (j : Nat) (oj : Oper) (d : Nat), ops[j]? = some oj → oj.dst = some d → listed.getD j false = true → ∃ v, a.tmps[d]? = some v ∧ V j v w := h.2.2.2.2.2.2
theorem any_inv {P : Program} {ops : Array Oper} {Q : Exit → Act → World → Prop} {a0 : Act} (V : Nat → Value → World → Prop) (S : Array Bool → Act → World → Prop) (R : World → World → Prop)
  (hfit : fit ops a0.tmps.size = true)
  (hmono : ∀ i v w w', R w w' → V i v w → V i v w')
  (hstep : ∀ i o, ops[i]? = some o → ∀ listed a w, i < listed.size → listed.getD i false = false → (∀ (j : Nat) (oj : Oper), ops[j]? = some oj → listed.getD j false = true → ∀ e ∈ oj.after, Region.binds .any e = true → listed.getD e.on false = true) → (∀ e ∈ o.after, Region.binds .any e = true → listed.getD e.on false = true) → S listed a w → a.defers = a0.defers → a.tmps.size = a0.tmps.size →
   (∀ j oj d, ops[j]? = some oj → oj.dst = some d → waits o j = true → ∃ v, a.tmps[d]? = some v ∧ V j v w) →
   (∀ d, free ops i d = true → a.tmps[d]? = a0.tmps[d]?) →
   wpOp P ops Q i (fun a' w' => ∃ v, a' = a.put o.dst v ∧ V i v w' ∧ S (listed.setIfInBounds i true) a' w' ∧ R w w') a w)
  (hdone : ∀ listed a w, (∀ i, i < ops.size → listed.getD i false = true) → S listed a w → a.defers = a0.defers → a.tmps.size = a0.tmps.size →
   (∀ d, (∀ (j : Nat) (oj : Oper), ops[j]? = some oj → oj.dst ≠ some d) → a.tmps[d]? = a0.tmps[d]?) →
   (∀ j oj d, ops[j]? = some oj → oj.dst = some d → ∃ v, a.tmps[d]? = some v ∧ V j v w) → Q .normal a w) :
  ∀ (fuel : Nat) (listed : Array Bool) (a : Act) (w : World), left listed = fuel → Amid ops a0 V S listed a w → wpAny P .any ops Q fuel listed a w := by
 have hend : ∀ (listed : Array Bool) (a : Act) (w : World), Amid ops a0 V S listed a w → Region.ready .any ops listed = [] → Q .normal a w := by
  intro listed a w hI hr
  have hall : ∀ i, i < ops.size → listed.getD i false = true := by
   intro i
   induction i using Nat.strongRecOn with
   | _ i ih =>
    intro hi
    have hi' : i < listed.size := by rw [hI.lsize]; exact hi
    cases hc : listed.getD i false with
    | true => rfl
    | false =>
     exfalso
     have hm : i ∈ Region.ready .any ops listed := by
      rw [mem_ready]
      refine ⟨by rw [getD_both hi' true false]; exact hc, _, Array.getElem?_eq_getElem hi, fun e he hbn => ?_⟩
      have hlt := (fit_spec hfit (Array.getElem?_eq_getElem hi)).1 e he hbn
      exact ih e.on hlt (by omega)
     rw [hr] at hm
     cases hm
  refine hdone listed a w hall hI.held hI.defers hI.size (fun d hd => hI.same d fun j oj hj hdj => absurd hdj (hd j oj hj)) fun j oj d hj hd => hI.val j oj d hj hd (hall j (Array.getElem?_eq_some_iff.1 hj).1)
 have hone : ∀ (listed : Array Bool) (a : Act) (w : World) (i : Nat), Amid ops a0 V S listed a w → i ∈ Region.ready .any ops listed → wpOp P ops Q i (Amid ops a0 V S (listed.setIfInBounds i true)) a w := by
  intro listed a w i hI hi
  obtain ⟨h0, o, ho, hall⟩ := mem_ready.1 hi
  have hlt : i < ops.size := (Array.getElem?_eq_some_iff.1 ho).1
  have hlt' : i < listed.size := by rw [hI.lsize]; exact hlt
  have h0' : listed.getD i false = false := by rw [getD_both hlt' false true]; exact h0
  obtain ⟨_, hdst⟩ := fit_spec hfit ho
  refine wpOp_mono ?_ (hstep i o ho listed a w hlt' h0' hI.closed hall hI.held hI.defers hI.size ?_ ?_)
  ·
   rintro a' w' ⟨v, rfl, hV, hS, hR⟩
   refine ⟨hS, ?_, ?_, by rw [Array.size_setIfInBounds]; exact hI.lsize, ?_, ?_, ?_⟩
   ·
    cases hd : o.dst <;> exact hI.defers
   ·
    cases hd : o.dst with
    | none => exact hI.size
    | some d => simpa [Act.put] using hI.size
   ·
    intro j oj hj hl e he hb
    rw [getD_set _ _ _ hlt']
    by_cases hji : j = i
    ·
     subst hji
     rw [ho] at hj
     cases hj
     have := hall e he hb
     split
     ·
      rfl
     ·
      exact this
    ·
     rw [getD_set _ _ _ hlt', if_neg hji] at hl
     split
     ·
      rfl
     ·
      exact hI.closed j oj hj hl e he hb
   ·
    intro d hd
    have hne : o.dst ≠ some d := by
     intro e
     have := hd i o ho e
     rw [getD_set _ _ _ hlt', if_pos rfl] at this
     cases this
    have hs := hI.same d fun j oj hj hdj => by
     have h := hd j oj hj hdj
     rw [getD_set _ _ _ hlt'] at h
     split at h
     ·
      cases h
     ·
      exact h
    cases hdd : o.dst with
    | none => exact hs
    | some d' =>
     have : d' ≠ d := fun e => hne (by rw [hdd, e])
     simp only [Act.put]
     rw [Array.getElem?_setIfInBounds_ne this]
     exact hs
   ·
    intro j oj d hj hd hl
    by_cases hji : j = i
    ·
     subst hji
     rw [ho] at hj
     cases hj
     refine ⟨v, ?_, hV⟩
     rw [hd]
     have := (hdst d hd).1
     simp only [Act.put]
     rw [Array.getElem?_setIfInBounds_self_of_lt (by rw [hI.size]; exact this)]
    ·
     rw [getD_set _ _ _ hlt', if_neg hji] at hl
     obtain ⟨u, hu, hVu⟩ := hI.val j oj d hj hd hl
     refine ⟨u, ?_, hmono j u _ _ hR hVu⟩
     cases hdd : o.dst with
     | none => exact hu
     | some d' =>
      have : d' ≠ d := fun e => hji ((hdst d' hdd).2 j oj hj (by rw [hd, e]))
      simp only [Act.put]
      rw [Array.getElem?_setIfInBounds_ne this]
      exact hu
  ·
   intro j oj d hj hd hwt
   obtain ⟨e, he, hb, rfl⟩ := waits_spec.1 hwt
   exact hI.val _ oj d hj hd (hall e he hb)
  ·
   intro d hd
   refine hI.same d fun j oj hj hdj => ?_
   cases hc : listed.getD j false with
   | false => rfl
   | true =>
    exfalso
    rcases free_spec hd hj hdj with hji | ⟨e, he, hb, hei⟩
    ·
     subst hji
     rw [h0'] at hc
     cases hc
    ·
     have := hI.closed j oj hj hc e he hb
     rw [hei, h0'] at this
     cases this
 intro fuel
 induction fuel with
 | zero =>
  intro listed a w hl hI
  have hr : Region.ready .any ops listed = [] := by
   cases hr : Region.ready .any ops listed with
   | nil => rfl
   | cons i r =>
    exfalso
    have hi : i ∈ Region.ready .any ops listed := by rw [hr]; exact List.mem_cons_self
    obtain ⟨h0, o, ho, _⟩ := mem_ready.1 hi
    have hlt : i < listed.size := by rw [hI.lsize]; exact (Array.getElem?_eq_some_iff.1 ho).1
    have := left_set listed i hlt h0
    omega
  exact ⟨hr, hend listed a w hI hr⟩
 | succ fuel ih =>
  intro listed a w hl hI
  refine ⟨hend listed a w hI, fun i hi => ?_⟩
  obtain ⟨h0, o, ho, _⟩ := mem_ready.1 hi
  have hlt : i < listed.size := by rw [hI.lsize]; exact (Array.getElem?_eq_some_iff.1 ho).1
  have hls := left_set listed i hlt h0
  exact wpOp_mono (fun a' w' h' => ih _ a' w' (by omega) h') (hone listed a w i hI hi)
theorem region_inv {P : Program} {ops : Array Oper} {Q : Exit → Act → World → Prop} {id : Nat} {a0 : Act} {w0 : World} (hm : P.follows .mixedOrders = true) (V : Nat → Value → World → Prop) (S : Array Bool → Act → World → Prop) (R : World → World → Prop)
  (hfit : fit ops a0.tmps.size = true)
  (hmono : ∀ i v w w', R w w' → V i v w → V i v w')
  (hS : S (Array.replicate ops.size false) a0 w0.drew)
  (hstep : ∀ i o, ops[i]? = some o → ∀ listed a w, i < listed.size → listed.getD i false = false → (∀ (j : Nat) (oj : Oper), ops[j]? = some oj → listed.getD j false = true → ∀ e ∈ oj.after, Region.binds .any e = true → listed.getD e.on false = true) → (∀ e ∈ o.after, Region.binds .any e = true → listed.getD e.on false = true) → S listed a w → a.defers = a0.defers → a.tmps.size = a0.tmps.size →
   (∀ j oj d, ops[j]? = some oj → oj.dst = some d → waits o j = true → ∃ v, a.tmps[d]? = some v ∧ V j v w) →
   (∀ d, free ops i d = true → a.tmps[d]? = a0.tmps[d]?) →
   wpOp P ops Q i (fun a' w' => ∃ v, a' = a.put o.dst v ∧ V i v w' ∧ S (listed.setIfInBounds i true) a' w' ∧ R w w') a w)
  (hdone : ∀ listed a w, (∀ i, i < ops.size → listed.getD i false = true) → S listed a w → a.defers = a0.defers → a.tmps.size = a0.tmps.size →
   (∀ d, (∀ (j : Nat) (oj : Oper), ops[j]? = some oj → oj.dst ≠ some d) → a.tmps[d]? = a0.tmps[d]?) →
   (∀ j oj d, ops[j]? = some oj → oj.dst = some d → ∃ v, a.tmps[d]? = some v ∧ V j v w) → Q .normal a w) :
  (Code.region id ops true).wp P Q a0 w0 := by
 refine wp_region_any hm (any_inv V S R hfit hmono hstep hdone ops.size (Array.replicate ops.size false) a0 _ ?_ ?_)
 ·
  unfold left
  rw [Array.toList_replicate, List.countP_replicate]
  simp
 ·
  have hf : ∀ j, (Array.replicate ops.size false).getD j false = false := by
   intro j
   simp only [Array.getD_eq_getD_getElem?, Array.getElem?_replicate]
   split <;> rfl
  refine ⟨hS, rfl, rfl, by simp, ?_, fun d _ => rfl, ?_⟩
  ·
   intro j oj _ hl
   rw [hf] at hl
   cases hl
  ·
   intro j oj d _ _ hl
   rw [hf] at hl
   cases hl
theorem region_act {P : Program} {ops : Array Oper} {Q : Exit → Act → World → Prop} {id : Nat} {a0 : Act} {w0 : World} (hm : P.follows .mixedOrders = true) (l : Nat) (V : Nat → Value → World → Prop) (S : World → Prop) (T : Act → World → Prop) (R : World → World → Prop)
  (hfit : fit ops a0.tmps.size = true) (hlast : lasts ops l = true)
  (hmono : ∀ i v w w', R w w' → V i v w → V i v w')
  (hS : S w0.drew)
  (hstep : ∀ i o, ops[i]? = some o → ∀ a w, S w → a.defers = a0.defers → a.tmps.size = a0.tmps.size →
   (∀ j oj d, ops[j]? = some oj → oj.dst = some d → waits o j = true → ∃ v, a.tmps[d]? = some v ∧ V j v w) →
   (∀ d, free ops i d = true → a.tmps[d]? = a0.tmps[d]?) →
   wpOp P ops Q i (fun a' w' => ∃ v, a' = a.put o.dst v ∧ V i v w' ∧ (if i = l then T a' w' else S w') ∧ R w w') a w)
  (hdone : ∀ a w, T a w → a.defers = a0.defers → a.tmps.size = a0.tmps.size →
   (∀ d, (∀ (j : Nat) (oj : Oper), ops[j]? = some oj → oj.dst ≠ some d) → a.tmps[d]? = a0.tmps[d]?) →
   (∀ j oj d, ops[j]? = some oj → oj.dst = some d → ∃ v, a.tmps[d]? = some v ∧ V j v w) → Q .normal a w) :
  (Code.region id ops true).wp P Q a0 w0 := by
 obtain ⟨ol, hol, hwl⟩ := lasts_spec hlast
 have hll : l < ops.size := (Array.getElem?_eq_some_iff.1 hol).1
 refine region_inv hm V (fun listed a w => if listed.getD l false = true then T a w else S w) R hfit hmono ?_ ?_ ?_
 ·
  have hf : (Array.replicate ops.size false).getD l false = false := by
   simp only [Array.getD_eq_getD_getElem?, Array.getElem?_replicate]
   split <;> rfl
  simp only [hf, Bool.false_eq_true, if_false]
  exact hS
 ·
  intro i o ho listed a w hil h0 hcl _ hs hdf hsz hdep hsame
  have hnl : listed.getD l false = false := by
   by_cases hi : i = l
   ·
    rw [← hi]; exact h0
   ·
    cases hc : listed.getD l false with
    | false => rfl
    | true =>
     obtain ⟨e, he, hb, hei⟩ := hwl i (Array.getElem?_eq_some_iff.1 ho).1 hi
     have := hcl l ol hol hc e he hb
     rw [hei, h0] at this
     cases this
  simp only [hnl, Bool.false_eq_true, if_false] at hs
  refine wpOp_mono ?_ (hstep i o ho a w hs hdf hsz hdep hsame)
  rintro a' w' ⟨v, h1, h2, h3, h4⟩
  refine ⟨v, h1, h2, ?_, h4⟩
  show if _ then _ else _
  rw [getD_set _ _ _ hil]
  by_cases hi : l = i
  ·
   rw [if_pos hi, if_pos rfl]
   rw [if_pos hi.symm] at h3
   exact h3
  ·
   rw [if_neg hi, if_neg (by rw [hnl]; decide)]
   rw [if_neg (fun h => hi h.symm)] at h3
   exact h3
 ·
  intro listed a w hall hs
  rw [if_pos (hall l hll)] at hs
  exact hdone a w hs
theorem op_value {P : Program} {ops : Array Oper} {Q : Exit → Act → World → Prop} {i : Nat} {o : Oper} {a : Act} {w w' : World} {v : Value} {V : Nat → Value → World → Prop} {S : Act → World → Prop} {R : World → World → Prop} (hi : ops[i]? = some o) (hw : Region.wanted o (yielded ops a.tmps) = true)
  (hr : (execOp a.eval o).run P w = .ok (.value v) w') (hV : V i v w') (hS : S (a.put o.dst v) w') (hR : R w w') :
  wpOp P ops Q i (fun a' w' => ∃ v, a' = a.put o.dst v ∧ V i v w' ∧ S a' w' ∧ R w w') a w := by
 unfold wpOp
 simp only [hi, hw, if_true]
 refine .inl ?_
 unfold Oper.wp
 rw [hr]
 exact ⟨v, rfl, hV, hS, hR⟩
theorem op_call {P : Program} {ops : Array Oper} {Q : Exit → Act → World → Prop} {i : Nat} {o : Oper} {a : Act} {w w' : World} {f : FuncId} {args : Array Value} {V : Nat → Value → World → Prop} {S : Act → World → Prop} {R : World → World → Prop} (hi : ops[i]? = some o) (hw : Region.wanted o (yielded ops a.tmps) = true)
  (hr : (execOp a.eval o).run P w = .ok (.enter f args) w')
  (hc : Calls P f args w' fun e w'' => ∃ v, e = .returned v ∧ V i v w'' ∧ S (a.put o.dst v) w'' ∧ R w w'') :
  wpOp P ops Q i (fun a' w' => ∃ v, a' = a.put o.dst v ∧ V i v w' ∧ S a' w' ∧ R w w') a w := by
 unfold wpOp
 simp only [hi, hw, if_true]
 refine .inl ?_
 unfold Oper.wp
 rw [hr]
 refine Calls.mono hc ?_
 rintro e w'' ⟨v, rfl, hV, hS, hR⟩
 exact ⟨v, rfl, hV, hS, hR⟩
theorem op_skip {P : Program} {ops : Array Oper} {Q : Exit → Act → World → Prop} {i : Nat} {o : Oper} {a : Act} {w w' : World} {V : Nat → Value → World → Prop} {S : Act → World → Prop} {R : World → World → Prop} (hi : ops[i]? = some o) (hw : Region.wanted o (yielded ops a.tmps) = true) (hd : o.dst = none)
  (hr : (execOp a.eval o).run P w = .ok .skip w') (hV : V i undef w') (hS : S a w') (hR : R w w') :
  wpOp P ops Q i (fun a' w' => ∃ v, a' = a.put o.dst v ∧ V i v w' ∧ S a' w' ∧ R w w') a w := by
 have hp : a.put o.dst undef = a := by rw [hd]; rfl
 unfold wpOp
 simp only [hi, hw, if_true]
 refine .inl ?_
 unfold Oper.wp
 rw [hr]
 exact ⟨undef, rfl, hV, by rw [hp]; exact hS, hR⟩
end Go.Proofs.YtaobfgplheoefaaGreat.Anyact
namespace Go.Proofs.YtaobfgplheoefaaGreat.Anyorder
open Go
theorem unwritten {ops : Array Oper} {d : Nat} (h : (ops.toList.all fun o => o.dst != some d) = true) : ∀ (j : Nat) (oj : Oper), ops[j]? = some oj → oj.dst ≠ some d := by
 intro j oj hj
 rw [List.all_eq_true] at h
 have := h oj (Array.mem_toList_iff.2 (Array.mem_of_getElem? hj))
 simpa using this
def Fits (t : Array Value) : Nat → List Value → Prop
 | _, [] => True
 | i, v :: vs => t[i]? = some v ∧ Fits t (i + 1) vs
theorem Fits.get {t : Array Value} {l : List Value} {k : Nat} (h : Fits t k l) (i : Nat) (v : Value) (hi : l[i]? = some v) : t[k + i]? = some v := by
 induction l generalizing k i with
 | nil => simp at hi
 | cons x xs ih =>
  cases i with
  | zero => simp at hi; subst hi; exact h.1
  | succ i =>
   have := ih h.2 i (by simpa using hi)
   rw [show k + (i + 1) = k + 1 + i by omega]
   exact this
theorem frame_is {a : Act} {l : List Value} {ds : List Deferred} (h : Fits a.tmps 0 l) (hd : a.defers = ds) (hs : a.tmps.size = l.length) : a = ⟨l.toArray, ds⟩ := by
 obtain ⟨t, d⟩ := a
 subst hd
 congr 1
 apply Array.ext_getElem?
 intro i
 by_cases hi : i < l.length
 ·
  have := h.get i l[i] (List.getElem?_eq_getElem hi)
  rw [Nat.zero_add] at this
  rw [this, List.getElem?_toArray, List.getElem?_eq_getElem hi]
 ·
  rw [Array.getElem?_eq_none (by simp only at hs; omega), List.getElem?_toArray, List.getElem?_eq_none (by omega)]
end Go.Proofs.YtaobfgplheoefaaGreat.Anyorder
namespace Go.Proofs.YtaobfgplheoefaaGreat
open Go.RowKit Plain
open Anylast (wanted_free)
set_option linter.unusedVariables false
def DevB (X : World) (z : Nat) : Prop := ∃ x0 n0 d0 x1 n1 d1, BoxL X z [.slice x0 n0 d0, .slice x1 n1 d1] ∧ Ends X z 2
theorem noText_two {x0 x1 : Option Addr} {n0 d0 n1 d1 : Nat} : ∀ v ∈ [Value.slice x0 n0 d0, .slice x1 n1 d1], noText v := by
 intro v hv s
 simp only [List.mem_cons, List.not_mem_nil, or_false] at hv
 rcases hv with rfl | rfl <;> exact fun h => by cases h
def MetR (X Y : World) : Prop := (∀ a c l, IsS X a c l → IsS Y a c l) ∧ (∀ a c l, IsP X a c l → IsP Y a c l) ∧ ∀ z, DevB X z → DevB Y z
theorem Ends.below {w w' : World} {h k : Nat} (e : Ends w h k) (hl : h < w.heap.size) (hb : Below w.heap.size w w') : Ends w' h k := e.turns (Turns.of_below (P := fun _ => False) hb) hl (fun x => x)
theorem metR_below {X Y : World} (hb : Below X.heap.size X Y) : MetR X Y :=
 ⟨fun a c l h => h.below hb, fun a c l h => h.below hb, fun z ⟨x0, n0, d0, x1, n1, d1, b, e⟩ => ⟨x0, n0, d0, x1, n1, d1, b.below hb, e.below (b.lt (by simp)) hb⟩⟩
theorem metR_store {X : World} {z : Nat} (h : DevB X z) (x0 x1 : Option Addr) (n0 d0 n1 d1 : Nat) : MetR X ((X.setCell ⟨z, 0, none⟩ (.slice x0 n0 d0)).setCell ⟨z, 1, none⟩ (.slice x1 n1 d1)) := by
 obtain ⟨y0, m0, e0, y1, m1, e1, b, e⟩ := h
 have t : Turns (fun k => k = z) X ((X.setCell ⟨z, 0, none⟩ (.slice x0 n0 d0)).setCell ⟨z, 1, none⟩ (.slice x1 n1 d1)) := ((Turns.refl (fun k => k = z) X).setCell (p := ⟨z, 0, none⟩) rfl _).setCell (p := ⟨z, 1, none⟩) rfl _
 refine ⟨fun a c l h => isS_offText h b e noText_two t, fun a c l h => isP_offText h b e noText_two t, fun z' ⟨u0, k0, f0, u1, k1, f1, b', e'⟩ => ?_⟩
 by_cases hz : z' = z
 ·
  subst hz
  exact ⟨_, _, _, _, _, _, (b.set 0 _).set 1 _, ends_set (ends_set e' (by omega)) (by omega)⟩
 ·
  exact ⟨_, _, _, _, _, _, (b'.off hz).off hz, ends_set (ends_set e' (by omega)) (by omega)⟩
def metV (h B n n' : Nat) (bs : List ByteArray) (ps : List (Int × ByteArray)) (s0 s1 : Value) (i : Nat) (v : Value) (X : World) : Prop :=
 match i with
 | 0 | 1 | 4 => v = .pointer (some ⟨h, 0, none⟩)
 | 5 => v = .pointer (some ⟨h, 1, none⟩)
 | 2 => v = s0
 | 6 => v = s1
 | 3 => ∃ x c, v = .slice x n c ∧ IsS X x c bs
 | 7 => ∃ x c, v = .slice x n' c ∧ IsP X x c ps
 | 8 => ∃ x c x' c', v = .agg #[.slice x n c, .slice x' n' c'] ∧ IsS X x c bs ∧ IsP X x' c' ps
 | 9 => ∃ z, v = .pointer (some ⟨z, 0, none⟩) ∧ DevB X z ∧ B ≤ z
 | _ => True
theorem metV_mono {h B n n' : Nat} {bs : List ByteArray} {ps : List (Int × ByteArray)} {s0 s1 : Value} (i : Nat) (v : Value) (X Y : World) (r : MetR X Y) (hv : metV h B n n' bs ps s0 s1 i v X) : metV h B n n' bs ps s0 s1 i v Y := by
 unfold metV at hv ⊢
 split at hv
 all_goals first
  | exact hv
  | (obtain ⟨x, c, e, hI⟩ := hv; exact ⟨x, c, e, r.1 _ _ _ hI⟩)
  | (obtain ⟨x, c, e, hI⟩ := hv; exact ⟨x, c, e, r.2.1 _ _ _ hI⟩)
  | (obtain ⟨x, c, x', c', e, hI, hI'⟩ := hv; exact ⟨x, c, x', c', e, r.1 _ _ _ hI, r.2.1 _ _ _ hI'⟩)
  | (obtain ⟨z, e, hd, hz⟩ := hv; exact ⟨z, e, r.2.2 _ hd, hz⟩)
def MetC (w : World) (n n' : Nat) (l : Int) (bs : List ByteArray) (ps : List (Int × ByteArray)) (e : Ending) (w' : World) : Prop :=
 ∃ h b d b' d', e = .returned (.pointer (some ⟨h, 0, none⟩)) ∧ BoxL w' h [.slice b n d, .slice b' n' d', .int .i64 l] ∧ Ends w' h 3 ∧ IsS w' b d bs ∧ IsP w' b' d' ps ∧ w.heap.size ≤ h ∧ Below w.heap.size w w'
set_option maxRecDepth 20000 in
set_option maxHeartbeats 2000000 in
theorem metered_any (a a' : Option Addr) (n n' c c' : Nat) (l : Int) (bs : List ByteArray) (ps : List (Int × ByteArray)) (w : World) (hn : n = bs.length) (hn' : n' = ps.length) (hS : IsS w a c bs) (hP : IsP w a' c' ps) (h1 : n ≤ 4096) (h2 : n' ≤ 4096) :
  Calls Tryz.prog 43 #[.agg #[.slice a n c, .slice a' n' c', .int .i64 l]] w fun e w' => MetC w n n' l bs ps e w' := by
 obtain ⟨W, hW⟩ : ∃ W, W = w.alloc (.cells #[.slice a n c, .slice a' n' c', .int .i64 l] 47) := ⟨_, rfl⟩
 have BX : BoxL W w.heap.size [.slice a n c, .slice a' n' c', .int .i64 l] := by rw [hW]; exact boxL_new _ _ _ rfl
 have HB : Below w.heap.size w W := by rw [hW]; exact (Below.refl _ _).alloc (Nat.le_refl _) _
 obtain ⟨V0, hV0⟩ : ∃ X, X = W.drew := ⟨_, rfl⟩
 have hD0 : Below W.heap.size W V0 := by rw [hV0]; exact (Below.refl _ _).drew
 have hBV := Below.tr HB hD0
 have BV := BX.below hD0
 have cS : ∀ X, Below V0.heap.size V0 X → Calls Tryz.prog 84 #[.slice a n c] X fun e w' => ∃ x cap, e = .returned (.slice x n cap) ∧ IsS w' x cap bs ∧ Below X.heap.size X w' := fun X hb => cloneT_any a c n bs X hn (hS.below (Below.tr hBV hb)) h1
 have cP : ∀ X, Below V0.heap.size V0 X → Calls Tryz.prog 85 #[.slice a' n' c'] X fun e w' => ∃ x cap, e = .returned (.slice x n' cap) ∧ IsP w' x cap ps ∧ Below X.heap.size X w' := fun X hb => cloneW_any a' c' n' ps X hn' (hP.below (Below.tr hBV hb)) h2
 clear hn hn' hS hP h1 h2
 go_enter Tryz.func43, Tryz.ntmps43
 go_wp2
 rw [← hW]
 refine Anyact.region_act (by kernel_rfl) 10 (metV w.heap.size V0.heap.size n n' bs ps (.slice a n c) (.slice a' n' c')) (fun X => Below V0.heap.size V0 X) (fun ac X => ∃ z x d x' d', ac.tmps[3]? = some (.pointer (some ⟨z, 0, none⟩)) ∧ BoxL X z [.slice x n d, .slice x' n' d'] ∧ IsS X x d bs ∧ IsP X x' d' ps ∧ V0.heap.size ≤ z ∧ Below V0.heap.size V0 X) MetR (by kernel_rfl) (by kernel_rfl) metV_mono (by rw [← hV0]; exact Below.refl _ _) ?step ?done
 case step =>
  clear hW hV0 hD0 hBV BX HB
  intro i oo ho a9 X hS hdf hsz hdep hsame
  have bx := BV.below hS
  have q0 := bx.1 0 _ rfl
  have q1 := bx.1 1 _ rfl
  have hsz0 : V0.heap.size ≤ X.heap.size := hS.size
  open Anyact in
  match i, ho with
  | 0, ho =>
   cases ho
   have h1 := hsame 1 rfl
   exact op_value rfl (wanted_free rfl) (by clear hdep hsame hsz hdf; go_simp) rfl (by rw [if_neg (by decide)]; exact hS) (metR_below (Below.refl _ _))
  | 1, ho =>
   cases ho
   obtain ⟨_, h4, rfl⟩ := hdep 0 _ 4 rfl rfl rfl
   exact op_value rfl (wanted_free rfl) (by clear hdep hsame hsz hdf; go_simp) rfl (by rw [if_neg (by decide)]; exact hS) (metR_below (Below.refl _ _))
  | 2, ho =>
   cases ho
   obtain ⟨_, h5, rfl⟩ := hdep 1 _ 5 rfl rfl rfl
   exact op_value rfl (wanted_free rfl) (by clear hdep hsame hsz hdf; go_simp) rfl (by rw [if_neg (by decide)]; exact hS) (metR_below (Below.refl _ _))
  | 3, ho =>
   cases ho
   obtain ⟨_, h6, rfl⟩ := hdep 2 _ 6 rfl rfl rfl
   exact op_call rfl (wanted_free rfl) (by clear hdep hsame hsz hdf; go_simp) ((cS X hS).mono fun e X' hx => by
    obtain ⟨x, cap, rfl, hI, hb⟩ := hx
    exact ⟨_, rfl, ⟨x, cap, rfl, hI⟩, by rw [if_neg (by decide)]; exact hS.trans (hb.mono hsz0), metR_below hb⟩)
  | 4, ho =>
   cases ho
   have h1 := hsame 1 rfl
   exact op_value rfl (wanted_free rfl) (by clear hdep hsame hsz hdf; go_simp) rfl (by rw [if_neg (by decide)]; exact hS) (metR_below (Below.refl _ _))
  | 5, ho =>
   cases ho
   obtain ⟨_, h8, rfl⟩ := hdep 4 _ 8 rfl rfl rfl
   exact op_value rfl (wanted_free rfl) (by clear hdep hsame hsz hdf; go_simp) rfl (by rw [if_neg (by decide)]; exact hS) (metR_below (Below.refl _ _))
  | 6, ho =>
   cases ho
   obtain ⟨_, h9, rfl⟩ := hdep 5 _ 9 rfl rfl rfl
   exact op_value rfl (wanted_free rfl) (by clear hdep hsame hsz hdf; go_simp) rfl (by rw [if_neg (by decide)]; exact hS) (metR_below (Below.refl _ _))
  | 7, ho =>
   cases ho
   obtain ⟨_, h10, rfl⟩ := hdep 6 _ 10 rfl rfl rfl
   exact op_call rfl (wanted_free rfl) (by clear hdep hsame hsz hdf; go_simp) ((cP X hS).mono fun e X' hx => by
    obtain ⟨x, cap, rfl, hI, hb⟩ := hx
    exact ⟨_, rfl, ⟨x, cap, rfl, hI⟩, by rw [if_neg (by decide)]; exact hS.trans (hb.mono hsz0), metR_below hb⟩)
  | 8, ho =>
   cases ho
   obtain ⟨_, h7, x3, c3, rfl, i3⟩ := hdep 3 _ 7 rfl rfl rfl
   obtain ⟨_, h11, x7, c7, rfl, i7⟩ := hdep 7 _ 11 rfl rfl rfl
   exact op_value rfl (wanted_free rfl) (by clear hdep hsame hsz hdf i3 i7; go_simp) ⟨_, _, _, _, rfl, i3, i7⟩ (by rw [if_neg (by decide)]; exact hS) (metR_below (Below.refl _ _))
  | 9, ho =>
   cases ho
   exact op_value (v := .pointer (some ⟨X.heap.size, 0, none⟩)) (w' := X.alloc (.cells #[.slice none 0 0, .slice none 0 0] 25)) rfl (wanted_free rfl) (by clear hdep hsame hsz hdf; go_simp) ⟨_, rfl, ⟨_, _, _, _, _, _, boxL_new X [.slice none 0 0, .slice none 0 0] _ rfl, ends_new X [.slice none 0 0, .slice none 0 0] _ rfl⟩, hsz0⟩ (by rw [if_neg (by decide)]; exact hS.alloc hsz0 _) (metR_below ((Below.refl _ _).alloc (Nat.le_refl _) _))
  | 10, ho =>
   cases ho
   obtain ⟨_, h3, z, rfl, hd, hz⟩ := hdep 9 _ 3 rfl rfl rfl
   obtain ⟨_, h12, x8, c8, x9, c9, rfl, i8, i9⟩ := hdep 8 _ 12 rfl rfl rfl
   have r := metR_store hd x8 x9 n c8 n' c9
   obtain ⟨y0, m0, e0, y1, m1, e1, b, ee⟩ := hd
   have f0 := b.2 0 (by simp)
   have f1 := b.2 1 (by simp)
   have g0 := b.1 0 _ rfl
   have g1 := b.1 1 _ rfl
   exact op_skip (w' := (X.setCell ⟨z, 0, none⟩ (.slice x8 n c8)).setCell ⟨z, 1, none⟩ (.slice x9 n' c9)) rfl (wanted_free rfl) rfl (by clear hdep hsame hsz hdf i8 i9 r; go_simp) trivial (by rw [if_pos rfl]; exact ⟨z, x8, c8, x9, c9, h3, (b.set 0 _).set 1 _, r.1 _ _ _ i8, r.2.1 _ _ _ i9, hz, Below.setCell (Below.setCell hS hz _) hz _⟩) r
  | k + 11, ho => simp at ho
 case done =>
  intro ac X hT hdf hsz hsame hval
  obtain ⟨z, x, d, x', d', e3, b, iS, iP, hz, hb⟩ := hT
  obtain ⟨v3, h3, hv3⟩ := hval 9 _ 3 rfl rfl
  obtain ⟨v4, h4, hv4⟩ := hval 0 _ 4 rfl rfl
  obtain ⟨v5, h5, hv5⟩ := hval 1 _ 5 rfl rfl
  obtain ⟨v6, h6, hv6⟩ := hval 2 _ 6 rfl rfl
  obtain ⟨v7, h7, hv7⟩ := hval 3 _ 7 rfl rfl
  obtain ⟨v8, h8, hv8⟩ := hval 4 _ 8 rfl rfl
  obtain ⟨v9, h9, hv9⟩ := hval 5 _ 9 rfl rfl
  obtain ⟨v10, h10, hv10⟩ := hval 6 _ 10 rfl rfl
  obtain ⟨v11, h11, hv11⟩ := hval 7 _ 11 rfl rfl
  obtain ⟨v12, h12, hv12⟩ := hval 8 _ 12 rfl rfl
  obtain rfl := Anyorder.frame_is (l := [_, _, _, _, _, _, _, _, _, _, _, _, _, _, _, _, _, _, _]) ⟨(hsame 0 (Anyorder.unwritten (by kernel_rfl))).trans rfl, (hsame 1 (Anyorder.unwritten (by kernel_rfl))).trans rfl, (hsame 2 (Anyorder.unwritten (by kernel_rfl))).trans rfl, h3, h4, h5, h6, h7, h8, h9, h10, h11, h12, (hsame 13 (Anyorder.unwritten (by kernel_rfl))).trans rfl, (hsame 14 (Anyorder.unwritten (by kernel_rfl))).trans rfl, (hsame 15 (Anyorder.unwritten (by kernel_rfl))).trans rfl, (hsame 16 (Anyorder.unwritten (by kernel_rfl))).trans rfl, (hsame 17 (Anyorder.unwritten (by kernel_rfl))).trans rfl, (hsame 18 (Anyorder.unwritten (by kernel_rfl))).trans rfl, trivial⟩ hdf hsz
  obtain rfl : v3 = .pointer (some ⟨z, 0, none⟩) := by simpa using e3
  have bx := BV.below hb
  have q2 := bx.1 2 _ rfl
  have g0 := b.1 0 _ rfl
  have g1 := b.1 1 _ rfl
  have HB2 : Below w.heap.size w X := Below.tr hBV hb
  have HF : Hid (MetC w n n' l bs ps (.returned (.pointer (some ⟨X.heap.size, 0, none⟩))) (X.alloc (.cells #[.slice x n d, .slice x' n' d', .int .i64 l] 135))) :=
   ⟨X.heap.size, x, d, x', d', rfl, boxL_new X [_, _, _] _ rfl, ends_new X [_, _, _] _ rfl, iS.below ((Below.refl _ _).alloc (Nat.le_refl _) _), iP.below ((Below.refl _ _).alloc (Nat.le_refl _) _), HB2.size, HB2.alloc HB2.size _⟩
  clear hval hsame hsz hdf e3 b iS iP hz hb bx BV hBV BX HB hD0 hV0 hW cS cP HB2
  go_wp2
  go_ret
  exact HF.out
end Go.Proofs.YtaobfgplheoefaaGreat
namespace Go.Proofs.YtaobfgplheoefaaGreat
open Go.RowKit Plain
set_option linter.unusedVariables false
def writeE (bs : List ByteArray) (ps : List (Int × ByteArray)) (k : Int) (s : ByteArray) : Int :=
 if blkE bs ps k = 0 then (if 4096 < s.size ∨ ps.length = 2048 then 2 else 0) else blkE bs ps k
def writeB (bs : List ByteArray) (ps : List (Int × ByteArray)) (k : Int) (s : ByteArray) : List ByteArray := if writeE bs ps k s = 0 then bs else []
def writeP (bs : List ByteArray) (ps : List (Int × ByteArray)) (k : Int) (s : ByteArray) : List (Int × ByteArray) := if writeE bs ps k s = 0 then ps ++ [(k, trimS s)] else []
theorem write_bad {bs : List ByteArray} {ps : List (Int × ByteArray)} {k : Int} {s : ByteArray} (h : writeE bs ps k s ≠ 0) : writeB bs ps k s = [] ∧ writeP bs ps k s = [] := ⟨if_neg h, if_neg h⟩
theorem write_ok {bs : List ByteArray} {ps : List (Int × ByteArray)} {k : Int} {s : ByteArray} (h : writeE bs ps k s = 0) : writeB bs ps k s = bs ∧ writeP bs ps k s = ps ++ [(k, trimS s)] := ⟨if_pos h, if_pos h⟩
theorem blkE_right {bs : List ByteArray} {ps : List (Int × ByteArray)} {k : Int} (h : blkE bs ps k = 0) : rightD bs ps = true ∧ 0 ≤ k ∧ k < bs.length := by
 unfold blkE at h
 split at h
 ·
  rename_i hr
  split at h
  ·
   rename_i hk
   rw [Bool.and_eq_true, decide_eq_true_eq, decide_eq_true_eq] at hk
   exact ⟨hr, hk⟩
  ·
   cases h
 ·
  cases h
set_option maxRecDepth 100000 in
set_option maxHeartbeats 4000000 in
theorem write_any (a a' : Option Addr) (c c' : Nat) (bs : List ByteArray) (ps : List (Int × ByteArray)) (k : Int) (s : ByteArray) (w : World) (hS : IsS w a c bs) (hP : IsP w a' c' ps) (hk6 : -9223372036854775808 ≤ k ∧ k ≤ 9223372036854775807) (hs : s.size ≤ maxLen) :
  Calls Tryz.prog 138 #[.agg #[.slice a bs.length c, .slice a' ps.length c'], .int .i64 k, .string s] w fun e w' => ∃ b d b' d', e = .returned (.tuple #[.agg #[.slice b (writeB bs ps k s).length d, .slice b' (writeP bs ps k s).length d'], .int .i64 (writeE bs ps k s)]) ∧ IsS w' b d (writeB bs ps k s) ∧ IsP w' b' d' (writeP bs ps k s) ∧ Below w.heap.size w w' := by
 obtain ⟨W, hW⟩ : ∃ W, W = (w.alloc (.cells #[.slice a bs.length c, .slice a' ps.length c'] 25)).alloc (.cells #[.slice none 0 0, .slice none 0 0] 25) := ⟨_, rfl⟩
 obtain ⟨hB0, hWs, ⟨d0, d1⟩, ⟨e0, e1⟩, f0, f1⟩ := two_boxes hW
 have c1 := checkBlock_any a a' c c' bs ps k W (hS.below hB0) (hP.below hB0)
 have HP : Hid (IsP w a' c' ps) := hP
 have HS : Hid (IsS w a c bs) := hS
 have hs' : s.size ≤ 9223372036854775807 := hs
 have hm' : ps.length ≤ 9223372036854775807 := Nat.le_trans hP.1 hP.2.1
 clear hS hP
 by_cases hk : blkE bs ps k = 0
 ·
  obtain ⟨hr, hk0, hk1⟩ := blkE_right hk
  obtain ⟨⟨h1, h2, h3⟩, -, -⟩ := (rightD_iff bs ps).1 hr
  have x1 : Hid (writeE bs ps k s = if 4096 < s.size ∨ ps.length = 2048 then 2 else 0) := if_pos hk
  rw [hk, hW] at c1
  by_cases hb : 4096 < s.size ∨ ps.length = 2048
  ·
   have x2 : writeE bs ps k s = 2 := by rw [x1.out, if_pos hb]
   obtain ⟨x3, x4⟩ := write_bad (bs := bs) (ps := ps) (k := k) (s := s) (by rw [x2]; decide)
   rw [x2, x3, x4]
   clear x2 x3 x4
   have hq1 : ¬ (s.size : Int) > 4096 → ((ps.length : Int) == 2048) = true := by intro h; simp; omega
   by_cases hb1 : 4096 < s.size
   ·
    have hb1' : (s.size : Int) > 4096 := by omega
    go_enter Tryz.func138, Tryz.ntmps138
    go_wp2_with (go_at_call 122; refine c1.mono ?_; rintro e w1 ⟨rfl, hb⟩; rw [← hW] at hb; replace d1 := cell_below hb d1; replace e0 := cell_below hb e0; replace e1 := cell_below hb e1; replace f0 := frozen_below hb (by omega) f0; replace f1 := frozen_below hb (by omega) f1; have hB1 := Below.tr hB0 hb; clear hb)
    refine bodyPost_ret (v := .tuple #[.agg #[.slice none 0 0, .slice none 0 0], .int .i64 2]) (by simp [results, Tryz.results138, go_sem, e0, e1]) rfl ⟨none, 0, none, 0, rfl, IsS_nil _, IsP_nil _, ?_⟩
    exact (hB1.setCell (p := ⟨w.heap.size + 1, 0, none⟩) (Nat.le_succ _) _).setCell (p := ⟨w.heap.size + 1, 1, none⟩) (Nat.le_succ _) _
   ·
    have hb1' : ¬ (s.size : Int) > 4096 := by omega
    have hb2 := hq1 hb1'
    go_enter Tryz.func138, Tryz.ntmps138
    go_wp2_with (go_at_call 122; refine c1.mono ?_; rintro e w1 ⟨rfl, hb⟩; rw [← hW] at hb; replace d1 := cell_below hb d1; replace e0 := cell_below hb e0; replace e1 := cell_below hb e1; replace f0 := frozen_below hb (by omega) f0; replace f1 := frozen_below hb (by omega) f1; have hB1 := Below.tr hB0 hb; clear hb)
    refine bodyPost_ret (v := .tuple #[.agg #[.slice none 0 0, .slice none 0 0], .int .i64 2]) (by simp [results, Tryz.results138, go_sem, e0, e1]) rfl ⟨none, 0, none, 0, rfl, IsS_nil _, IsP_nil _, ?_⟩
    exact (hB1.setCell (p := ⟨w.heap.size + 1, 0, none⟩) (Nat.le_succ _) _).setCell (p := ⟨w.heap.size + 1, 1, none⟩) (Nat.le_succ _) _
  ·
   have x2 : writeE bs ps k s = 0 := by rw [x1.out, if_neg hb]
   obtain ⟨x3, x4⟩ := write_ok (bs := bs) (ps := ps) (k := k) (s := s) x2
   rw [x2, x3, x4, List.length_append]
   show Calls _ _ _ _ fun e w' => ∃ b d b' d', e = .returned (.tuple #[.agg #[.slice b bs.length d, .slice b' (ps.length + 1) d'], .int .i64 0]) ∧ _
   clear x2 x3 x4
   have hb1 : ¬ (s.size : Int) > 4096 := by omega
   have hb2 : ((ps.length : Int) == 2048) = false := by simp; omega
   have h3' : ps.length ≤ 2047 := by omega
   have hts : (trimS s).size ≤ maxLen := Nat.le_trans (trimS_le s) hs
   have ct := fun V => trim_any s V hs
   generalize trimS s = y at hts ct ⊢
   clear x1 hb
   go_enter Tryz.func138, Tryz.ntmps138
   go_wp2_with (first
    | (go_at_call 122; refine c1.mono ?_; rintro e w1 ⟨rfl, hb⟩; rw [← hW] at hb; replace d0 := cell_below hb d0; replace d1 := cell_below hb d1; replace e0 := cell_below hb e0; replace e1 := cell_below hb e1; replace f0 := frozen_below hb (by omega) f0; replace f1 := frozen_below hb (by omega) f1; have hB1 := Below.tr hB0 hb; have hs1 := hb.size; clear hb)
    | (go_at_call 114; refine (ct _).mono ?_; rintro e w2 ⟨rfl, rfl⟩; have d0a := cell_alloc d0; have d1a := cell_alloc d1))
   obtain ⟨V, hV⟩ : ∃ V, V = ((w1.alloc (.cells #[.int .i64 k, .string y] 66)).alloc (.cells #[.int .i64 k, .string y] 66)).alloc (.cells #[.slice a' ps.length c', .slice (some ⟨w1.heap.size + 1, 0, none⟩) 1 1] 23) := ⟨_, rfl⟩
   have hb3 : Below w1.heap.size w1 V := by rw [hV]; exact (((Below.refl _ _).alloc (Nat.le_refl _) _).alloc (by simp) _).alloc (by simp; omega) _
   have s0 : V.cell? ⟨w1.heap.size + 1 + 1, 0, none⟩ = some (.slice a' ps.length c') := by rw [hV]; exact World.cell?_alloc_at _ _ _ _ (by simp)
   have s1 : V.cell? ⟨w1.heap.size + 1 + 1, 1, none⟩ = some (.slice (some ⟨w1.heap.size + 1, 0, none⟩) 1 1) := by rw [hV]; exact World.cell?_alloc_at _ _ _ _ (by simp)
   have q0 : V.cell? ⟨w1.heap.size + 1, 0, none⟩ = some (.int .i64 k) := by rw [hV]; exact Lib.cell?_alloc_some _ (World.cell?_alloc_at _ _ _ _ (by simp))
   have q1 : V.cell? ⟨w1.heap.size + 1, 1, none⟩ = some (.string y) := by rw [hV]; exact Lib.cell?_alloc_some _ (World.cell?_alloc_at _ _ _ _ (by simp))
   have hB3 := Below.tr hB1 hb3
   have HQ : IsP V (some ⟨w1.heap.size + 1, 0, none⟩) 1 [(k, y)] := by
    refine ⟨Nat.le_refl _, by unfold maxLen; omega, fun j p hp => ?_⟩
    match j, hp with
    | 0, hp =>
     obtain rfl : (k, y) = p := by simpa using hp
     exact ⟨_, _, rfl, cell_lt q0, q0, q1, hts, hk6⟩
    | j + 1, hp => simp at hp
   have c2 := concat_any a' c' (w1.heap.size + 1) (w1.heap.size + 1 + 1) ps (k, y) V (HP.out.below hB3) HQ h3' s0 s1
   replace d0 := cell_below hb3 d0
   replace e0 := cell_below hb3 e0
   replace e1 := cell_below hb3 e1
   replace f0 := frozen_below hb3 (by omega) f0
   replace f1 := frozen_below hb3 (by omega) f1
   have hs3 := hb3.size
   rw [← hV]
   clear hV hb3 hB1 s0 s1 q0 q1 HQ c1 ct d0a d1a d1 hW
   go_wp2_with (first
    | (go_at_call 161; refine c2.mono ?_; rintro e w3 ⟨g, cap, rfl, hg, hI, hb⟩; have HI : Hid (IsP w3 (some ⟨g, 0, none⟩) cap (ps ++ [(k, y)])) := hI; replace d0 := cell_below hb d0; replace e0 := cell_below hb e0; replace e1 := cell_below hb e1; replace f0 := frozen_below hb (by omega) f0; replace f1 := frozen_below hb (by omega) f1; have hB4 := Below.tr hB3 hb; have hs4 := hb.size; clear hb hI c2)
    | (go_at_call 84; refine (devClone_any a c bs _ (HS.out.below hB4) h1 h2).mono ?_; rintro e w4 ⟨g', cap', rfl, hg', hrow, hb⟩; replace HI : Hid (IsP w4 (some ⟨g, 0, none⟩) cap (ps ++ [(k, y)])) := HI.out.below hb; have HROW : Hid (RowS w4 g' cap' bs) := hrow; replace e0 := cell_below hb e0; replace e1 := cell_below hb e1; replace f0 := frozen_below hb (by omega) f0; replace f1 := frozen_below hb (by omega) f1; have hB5 := Below.tr hB4 hb; have hs5 := hb.size; clear hb hrow))
   have HZ : ∀ x ∈ bs, x.size ≤ maxLen := fun x hx => Nat.le_trans ((okS_iff _).1 (((rightD_iff bs ps).1 hr).2.1 x hx)).1 (by unfold maxLen; omega)
   refine bodyPost_ret (v := .tuple #[.agg #[.slice (some ⟨g', 0, none⟩) bs.length cap', .slice (some ⟨g, 0, none⟩) (ps.length + 1) cap], .int .i64 0]) (by simp [results, Tryz.results138, go_sem, e0, e1]) rfl ⟨_, _, _, _, rfl, ?_, ?_, ?_⟩
   ·
    exact (RowS.setOther (RowS.setOther HROW.out (by omega)) (by omega)).isS HZ
   ·
    exact isP_set _ (isP_set _ HI.out (by omega)) (by omega)
   ·
    exact (hB5.setCell (p := ⟨w.heap.size + 1, 0, none⟩) (Nat.le_succ _) _).setCell (p := ⟨w.heap.size + 1, 1, none⟩) (Nat.le_succ _) _
 ·
  have x1 : writeE bs ps k s = blkE bs ps k := if_neg hk
  obtain ⟨x3, x4⟩ := write_bad (bs := bs) (ps := ps) (k := k) (s := s) (by rw [x1]; exact hk)
  rw [x3, x4, x1]
  clear x1 x3 x4
  rw [hW] at c1
  generalize blkE bs ps k = q at hk c1 ⊢
  go_enter Tryz.func138, Tryz.ntmps138
  go_wp2_with (go_at_call 122; refine c1.mono ?_; rintro e w1 ⟨rfl, hb⟩; rw [← hW] at hb; replace e0 := cell_below hb e0; replace e1 := cell_below hb e1; replace f0 := frozen_below hb (by omega) f0; replace f1 := frozen_below hb (by omega) f1; have hB1 := Below.tr hB0 hb; clear hb)
  refine bodyPost_ret (v := .tuple #[.agg #[.slice none 0 0, .slice none 0 0], .int .i64 q]) (by simp [results, Tryz.results138, go_sem, e0, e1]) rfl ⟨none, 0, none, 0, rfl, IsS_nil _, IsP_nil _, ?_⟩
  exact (hB1.setCell (p := ⟨w.heap.size + 1, 0, none⟩) (Nat.le_succ _) _).setCell (p := ⟨w.heap.size + 1, 1, none⟩) (Nat.le_succ _) _
end Go.Proofs.YtaobfgplheoefaaGreat
namespace Go.Proofs.YtaobfgplheoefaaGreat
open Go.RowKit Plain
open Anylast
set_option linter.unusedVariables false
theorem become_any (h : Nat) (v0 v1 v2 : Value) (a a' : Option Addr) (n n' c c' : Nat) (E : Int) (w : World) (hx : BoxL w h [v0, v1, v2]) :
  Calls Tryz.prog 137 #[.pointer (some ⟨h, 0, none⟩), .agg #[.slice a n c, .slice a' n' c'], .int .i64 E] w fun e w' => e = .returned (.int .i64 E) ∧ BoxL w' h (if E = 0 then [.slice a n c, .slice a' n' c', v2] else [v0, v1, v2]) ∧ (Ends w h 3 → Ends w' h 3) ∧ Turns (fun k => k = h) w w' := by
 by_cases hE : E = 0
 ·
  subst hE
  rw [if_pos rfl]
  exact become_ok h v0 v1 v2 a a' n n' c c' w hx
 ·
  rw [if_neg hE]
  exact (become_no h a a' n n' c c' E w hE).mono fun e w' ⟨he, hb⟩ => ⟨he, hx.below hb, fun e => e.below (hx.lt (by simp)) hb, Turns.of_below hb⟩
def wrB (bs : List ByteArray) (ps : List (Int × ByteArray)) (k : Int) (s : ByteArray) : List ByteArray := if writeE bs ps k s = 0 then writeB bs ps k s else bs
def wrP (bs : List ByteArray) (ps : List (Int × ByteArray)) (k : Int) (s : ByteArray) : List (Int × ByteArray) := if writeE bs ps k s = 0 then writeP bs ps k s else ps
def MetAt (X : World) (h : Nat) (l : Int) (bs : List ByteArray) (ps : List (Int × ByteArray)) : Prop :=
 ∃ b m d b' m' d', m = bs.length ∧ m' = ps.length ∧ BoxL X h [.slice b m d, .slice b' m' d', .int .i64 l] ∧ Ends X h 3 ∧ IsS X b d bs ∧ IsP X b' d' ps
theorem noText_three {x0 x1 : Option Addr} {n0 d0 n1 d1 : Nat} {l : Int} : ∀ v ∈ [Value.slice x0 n0 d0, .slice x1 n1 d1, .int .i64 l], noText v := by
 intro v hv s
 simp only [List.mem_cons, List.not_mem_nil, or_false] at hv
 rcases hv with rfl | rfl | rfl <;> exact fun h => by cases h
section
variable (V0 : World) (h : Nat) (l : Int) (bs : List ByteArray) (ps : List (Int × ByteArray)) (k : Int) (s : ByteArray)
def WrT (b b' : Option Addr) (d d' : Nat) (X : World) : Prop :=
 ∃ Z, Below V0.heap.size V0 Z ∧ Turns (fun k => k = h) Z X ∧ IsS Z b d (writeB bs ps k s) ∧ IsP Z b' d' (writeP bs ps k s)
def wrV (z : Nat) (s0 : Value) (i : Nat) (v : Value) (X : World) : Prop :=
 match i with
 | 0 | 1 | 2 | 3 => v = .pointer (some ⟨h, 0, none⟩)
 | 4 => v = s0
 | 5 => v = .pointer (some ⟨z, 0, none⟩)
 | 7 => v = .pointer (some ⟨z, 1, none⟩)
 | 6 => v = .int .i64 k
 | 8 => v = .string s
 | 9 => ∃ b d b' d', v = .tuple #[.agg #[.slice b (writeB bs ps k s).length d, .slice b' (writeP bs ps k s).length d'], .int .i64 (writeE bs ps k s)] ∧ WrT V0 h bs ps k s b b' d d' X
 | 10 => ∃ b d b' d', v = .agg #[.slice b (writeB bs ps k s).length d, .slice b' (writeP bs ps k s).length d'] ∧ WrT V0 h bs ps k s b b' d d' X
 | 11 | 12 | 13 => v = .int .i64 (writeE bs ps k s)
 | _ => True
end
def wrS (V0 : World) (h : Nat) (l : Int) (bs : List ByteArray) (ps : List (Int × ByteArray)) (k : Int) (s : ByteArray) (q : Nat) (X : World) : Prop :=
 (q = 0 → X = V0) ∧ (q = 1 → Below V0.heap.size V0 X) ∧ (q = 2 → MetAt X h l (wrB bs ps k s) (wrP bs ps k s) ∧ Turns (fun k => k = h) V0 X)
theorem wr_end {V0 X Y : World} {h : Nat} {l : Int} {bs : List ByteArray} {ps : List (Int × ByteArray)} {k : Int} {s : ByteArray} {a a' b b' : Option Addr} {n n' c c' d d' : Nat} (hn : n = bs.length) (hn' : n' = ps.length) (hx : BoxL V0 h [.slice a n c, .slice a' n' c', .int .i64 l]) (he : Ends V0 h 3) (hS : IsS V0 a c bs) (hP : IsP V0 a' c' ps)
  (hb : Below V0.heap.size V0 X) (ht : WrT V0 h bs ps k s b b' d d' X) (by_ : BoxL Y h (if writeE bs ps k s = 0 then [.slice b (writeB bs ps k s).length d, .slice b' (writeP bs ps k s).length d', .int .i64 l] else [.slice a n c, .slice a' n' c', .int .i64 l])) (ey : Ends X h 3 → Ends Y h 3) (t : Turns (fun k => k = h) X Y) :
  wrS V0 h l bs ps k s 2 Y := by
 have hl := hx.lt (by simp)
 have tt : Turns (fun k => k = h) V0 Y := (Turns.of_below hb).trans t
 refine ⟨fun h => by omega, fun h => by omega, fun _ => ⟨?_, tt⟩⟩
 have eY := ey (he.below hl hb)
 unfold MetAt wrB wrP
 by_cases hE : writeE bs ps k s = 0
 ·
  rw [if_pos hE] at by_
  rw [if_pos hE, if_pos hE]
  obtain ⟨Z, hZ, tZ, iS, iP⟩ := ht
  exact ⟨b, _, d, b', _, d', rfl, rfl, by_, eY, isS_offText iS (hx.below hZ) (he.below hl hZ) noText_three (tZ.trans t), isP_offText iP (hx.below hZ) (he.below hl hZ) noText_three (tZ.trans t)⟩
 ·
  rw [if_neg hE] at by_
  rw [if_neg hE, if_neg hE]
  exact ⟨a, n, c, a', n', c', hn, hn', by_, eY, isS_offText hS hx he noText_three tt, isP_offText hP hx he noText_three tt⟩
theorem wrV_mono {V0 : World} {h : Nat} {bs : List ByteArray} {ps : List (Int × ByteArray)} {k : Int} {s : ByteArray} {z : Nat} {s0 : Value} (i : Nat) (v : Value) (X Y : World) (t : Turns (fun k => k = h) X Y) (hv : wrV V0 h bs ps k s z s0 i v X) : wrV V0 h bs ps k s z s0 i v Y := by
 unfold wrV at hv ⊢
 split at hv
 all_goals first
  | exact hv
  | (obtain ⟨b, d, b', d', e, Z, hZ, tZ, iS⟩ := hv; exact ⟨b, d, b', d', e, Z, hZ, tZ.trans t, iS⟩)
set_option maxRecDepth 20000 in
set_option maxHeartbeats 2000000 in
theorem diskWrite_any (h : Nat) (l : Int) (bs : List ByteArray) (ps : List (Int × ByteArray)) (k : Int) (s : ByteArray) (w : World) (hm : MetAt w h l bs ps) (hk6 : -9223372036854775808 ≤ k ∧ k ≤ 9223372036854775807) (hs : s.size ≤ maxLen) :
  Calls Tryz.prog 88 #[.pointer (some ⟨h, 0, none⟩), .agg #[.int .i64 k, .string s]] w fun e w' => e = .returned (.int .i64 (writeE bs ps k s)) ∧ MetAt w' h l (wrB bs ps k s) (wrP bs ps k s) ∧ Turns (fun k => k = h) w w' := by
 obtain ⟨a, n, c, a', n', c', hn, hn', hx, he, hS, hP⟩ := hm
 obtain ⟨W, hW⟩ : ∃ W, W = w.alloc (.cells #[.int .i64 k, .string s] 66) := ⟨_, rfl⟩
 obtain ⟨V0, hV0⟩ : ∃ V0, V0 = W.drew := ⟨_, rfl⟩
 have hA : Below w.heap.size w V0 := by rw [hV0, hW]; exact ((Below.refl _ _).alloc (Nat.le_refl _) _).drew
 have bW : BoxL V0 w.heap.size [.int .i64 k, .string s] := by rw [hV0, hW]; exact (boxL_new w _ _ rfl).below (Below.refl _ _).drew
 have hl : h < w.heap.size := hx.lt (by simp)
 have x0 := hx.below hA
 have e0 := he.below hl hA
 have S0 := hS.below hA
 have P0 := hP.below hA
 have cF := write_any a a' c c' bs ps k s V0 S0 P0 hk6 hs
 rw [← hn, ← hn'] at cF
 have HN : Hid (n = bs.length ∧ n' = ps.length) := ⟨hn, hn'⟩
 have HT : Hid (Turns (fun k => k = h) w V0) := Turns.of_below hA
 clear hn hn' hx he hS hP hA hl
 go_enter Tryz.func88, Tryz.ntmps88
 go_wp2
 rw [← hW]
 refine region_chain (by kernel_rfl) [9, 12] (wrV V0 h bs ps k s w.heap.size (.agg #[.slice a n c, .slice a' n' c'])) (wrS V0 h l bs ps k s) (Turns (fun k => k = h)) (by kernel_rfl) (by kernel_rfl) wrV_mono (by rw [← hV0]; exact ⟨fun _ => rfl, fun h => by omega, fun h => by omega⟩) ?step 14 rfl ?done
 case step =>
  clear hW hV0 HT
  intro i oo ho q a9 X hq hmay hS hdf hsz hdep hsame
  simp only [List.length_cons, List.length_nil] at hq
  match i, ho with
  | 0, ho =>
   cases ho
   have h0 := hsame 0 rfl
   exact op_value rfl (wanted_free rfl) (by clear hdep hsame hsz hdf; go_simp) rfl (by rw [if_neg (by decide)]; exact hS) (Turns.refl _ _)
  | 1, ho =>
   cases ho
   have h0 := hsame 0 rfl
   exact op_value rfl (wanted_free rfl) (by clear hdep hsame hsz hdf; go_simp) rfl (by rw [if_neg (by decide)]; exact hS) (Turns.refl _ _)
  | 2, ho =>
   cases ho
   obtain ⟨_, h6, rfl⟩ := hdep 1 _ 6 rfl rfl rfl
   exact op_value rfl (wanted_free rfl) (by clear hdep hsame hsz hdf; go_simp) rfl (by rw [if_neg (by decide)]; exact hS) (Turns.refl _ _)
  | 3, ho =>
   cases ho
   obtain ⟨_, h7, rfl⟩ := hdep 2 _ 7 rfl rfl rfl
   exact op_value rfl (wanted_free rfl) (by clear hdep hsame hsz hdf; go_simp) rfl (by rw [if_neg (by decide)]; exact hS) (Turns.refl _ _)
  | 4, ho =>
   cases ho
   obtain ⟨_, h8, rfl⟩ := hdep 3 _ 8 rfl rfl rfl
   obtain rfl := hS.1 (by
    clear hS hdep hsame
    rcases (by omega : q = 0 ∨ q = 1 ∨ q = 2) with rfl | rfl | rfl <;> first | rfl | exact absurd hmay (Bool.eq_false_iff.1 (by kernel_rfl)))
   have q0 := x0.1 0 _ rfl
   have q1 := x0.1 1 _ rfl
   exact op_value rfl (wanted_free rfl) (by clear hdep hsame hsz hdf; go_simp) rfl (by rw [if_neg (by decide)]; exact hS) (Turns.refl _ _)
  | 5, ho =>
   cases ho
   have h3 := hsame 3 rfl
   exact op_value rfl (wanted_free rfl) (by clear hdep hsame hsz hdf; go_simp) rfl (by rw [if_neg (by decide)]; exact hS) (Turns.refl _ _)
  | 6, ho =>
   cases ho
   obtain ⟨_, h10, rfl⟩ := hdep 5 _ 10 rfl rfl rfl
   obtain rfl := hS.1 (by
    clear hS hdep hsame
    rcases (by omega : q = 0 ∨ q = 1 ∨ q = 2) with rfl | rfl | rfl <;> first | rfl | exact absurd hmay (Bool.eq_false_iff.1 (by kernel_rfl)))
   have q0 := bW.1 0 _ rfl
   exact op_value rfl (wanted_free rfl) (by clear hdep hsame hsz hdf; go_simp) rfl (by rw [if_neg (by decide)]; exact hS) (Turns.refl _ _)
  | 7, ho =>
   cases ho
   have h3 := hsame 3 rfl
   exact op_value rfl (wanted_free rfl) (by clear hdep hsame hsz hdf; go_simp) rfl (by rw [if_neg (by decide)]; exact hS) (Turns.refl _ _)
  | 8, ho =>
   cases ho
   obtain ⟨_, h12, rfl⟩ := hdep 7 _ 12 rfl rfl rfl
   obtain rfl := hS.1 (by
    clear hS hdep hsame
    rcases (by omega : q = 0 ∨ q = 1 ∨ q = 2) with rfl | rfl | rfl <;> first | rfl | exact absurd hmay (Bool.eq_false_iff.1 (by kernel_rfl)))
   have q1 := bW.1 1 _ rfl
   exact op_value rfl (wanted_free rfl) (by clear hdep hsame hsz hdf; go_simp) rfl (by rw [if_neg (by decide)]; exact hS) (Turns.refl _ _)
  | 9, ho =>
   cases ho
   obtain ⟨_, h9, rfl⟩ := hdep 4 _ 9 rfl rfl rfl
   obtain ⟨_, h11, rfl⟩ := hdep 6 _ 11 rfl rfl rfl
   obtain ⟨_, h13, rfl⟩ := hdep 8 _ 13 rfl rfl rfl
   have hq0 : q = 0 := by
    clear hS hdep hsame
    rcases (by omega : q = 0 ∨ q = 1 ∨ q = 2) with rfl | rfl | rfl <;> first | rfl | exact absurd hmay (Bool.eq_false_iff.1 (by kernel_rfl))
   subst hq0
   obtain rfl := hS.1 rfl
   exact op_call rfl (wanted_free rfl) (by clear hdep hsame hsz hdf; go_simp) (cF.mono fun e X' hx => by
    obtain ⟨b, d, b', d', rfl, iS, iP, hb⟩ := hx
    exact ⟨_, rfl, ⟨b, d, b', d', rfl, X', hb, Turns.refl _ _, iS, iP⟩, by rw [if_pos (by decide)]; exact ⟨fun h => by omega, fun _ => hb, fun h => by omega⟩, Turns.of_below hb⟩)
  | 10, ho =>
   cases ho
   obtain ⟨_, h14, b, d, b', d', rfl, hw⟩ := hdep 9 _ 14 rfl rfl rfl
   exact op_value rfl (wanted_free rfl) (by clear hdep hsame hsz hdf hw; go_simp) ⟨b, d, b', d', rfl, hw⟩ (by rw [if_neg (by decide)]; exact hS) (Turns.refl _ _)
  | 11, ho =>
   cases ho
   obtain ⟨_, h14, b, d, b', d', rfl, hw⟩ := hdep 9 _ 14 rfl rfl rfl
   exact op_value rfl (wanted_free rfl) (by clear hdep hsame hsz hdf hw; go_simp) rfl (by rw [if_neg (by decide)]; exact hS) (Turns.refl _ _)
  | 12, ho =>
   cases ho
   obtain ⟨_, h5, rfl⟩ := hdep 0 _ 5 rfl rfl rfl
   obtain ⟨_, h15, b, d, b', d', rfl, hw⟩ := hdep 10 _ 15 rfl rfl rfl
   obtain ⟨_, h16, rfl⟩ := hdep 11 _ 16 rfl rfl rfl
   have hq1 : q = 1 := by
    clear hS hdep hsame
    rcases (by omega : q = 0 ∨ q = 1 ∨ q = 2) with rfl | rfl | rfl <;> first | rfl | exact absurd hmay (Bool.eq_false_iff.1 (by kernel_rfl))
   subst hq1
   have hb := hS.2.1 rfl
   have cB := become_any h _ _ _ b b' (writeB bs ps k s).length (writeP bs ps k s).length d d' (writeE bs ps k s) X (x0.below hb)
   refine op_call rfl (wanted_free rfl) (by clear hdep hsame hsz hdf; go_simp) (cB.mono ?_)
   rintro e X' ⟨rfl, bx, ey, t⟩
   exact ⟨_, rfl, rfl, by rw [if_pos (by decide)]; exact wr_end HN.out.1 HN.out.2 x0 e0 S0 P0 hb hw bx ey t, t⟩
  | 13, ho =>
   cases ho
   obtain ⟨_, h17, rfl⟩ := hdep 12 _ 17 rfl rfl rfl
   exact op_value rfl (wanted_free rfl) (by clear hdep hsame hsz hdf; go_simp) rfl (by rw [if_neg (by decide)]; exact hS) (Turns.refl _ _)
  | k + 14, ho => simp at ho
 case done =>
  intro val X hS hV
  have h13 : val 13 = .int .i64 (writeE bs ps k s) := hV 13 _ rfl rfl
  have HE : Hid (MetAt X h l (wrB bs ps k s) (wrP bs ps k s) ∧ Turns (fun k => k = h) w X) := ⟨(hS.2.2 rfl).1, HT.out.trans (hS.2.2 rfl).2⟩
  clear hS hV cF x0 e0 S0 P0 bW HN HT hW hV0
  simp [filledN]
  go_wp2
  refine bodyPost_ret (v := .int .i64 (writeE bs ps k s)) (by simp [results, Tryz.results88, go_sem, h13]) rfl ⟨rfl, HE.out.1, HE.out.2⟩
def flB (bs : List ByteArray) (ps : List (Int × ByteArray)) : List ByteArray := if rightE bs ps = 0 then flushL bs ps else bs
def flP (bs : List ByteArray) (ps : List (Int × ByteArray)) : List (Int × ByteArray) := if rightE bs ps = 0 then [] else ps
set_option maxRecDepth 20000 in
set_option maxHeartbeats 1000000 in
theorem diskFlush_any (h : Nat) (l : Int) (bs : List ByteArray) (ps : List (Int × ByteArray)) (w : World) (hm : MetAt w h l bs ps) :
  Calls Tryz.prog 89 #[.pointer (some ⟨h, 0, none⟩)] w fun e w' => e = .returned (.int .i64 (rightE bs ps)) ∧ MetAt w' h l (flB bs ps) (flP bs ps) ∧ Turns (fun k => k = h) w w' := by
 obtain ⟨a, n, c, a', n', c', hn, hn', hx, he, hS, hP⟩ := hm
 have cF := flush_any a a' c c' bs ps w hS hP
 rw [← hn, ← hn'] at cF
 have hl := hx.lt (by simp)
 have q0 := hx.1 0 _ rfl
 have q1 := hx.1 1 _ rfl
 obtain ⟨m, hm⟩ : ∃ m, m = (flushL bs ps).length := ⟨_, rfl⟩
 obtain ⟨E, hE⟩ : ∃ E, E = rightE bs ps := ⟨_, rfl⟩
 rw [← hm, ← hE] at cF
 have cB := fun b d w x => become_any h (.slice a n c) (.slice a' n' c') (.int .i64 l) b none m 0 d 0 E w x
 have HF : Hid (∀ w1 w2 b d, IsS w1 b d (flushL bs ps) → Below w.heap.size w w1 → BoxL w2 h (if E = 0 then [.slice b m d, .slice none 0 0, .int .i64 l] else [.slice a n c, .slice a' n' c', .int .i64 l]) → (Ends w1 h 3 → Ends w2 h 3) → Turns (fun k => k = h) w1 w2 → MetAt w2 h l (flB bs ps) (flP bs ps) ∧ Turns (fun k => k = h) w w2) := by
  intro w1 w2 b d hI hb bx ey t
  have tt : Turns (fun k => k = h) w w2 := (Turns.of_below hb).trans t
  have e1 := he.below hl hb
  refine ⟨?_, tt⟩
  unfold MetAt flB flP
  rw [← hE]
  by_cases h0 : E = 0
  ·
   rw [if_pos h0] at bx
   rw [if_pos h0, if_pos h0]
   exact ⟨b, m, d, none, 0, 0, hm, rfl, bx, ey e1, isS_offText hI (hx.below hb) e1 noText_three t, IsP_nil _⟩
  ·
   rw [if_neg h0] at bx
   rw [if_neg h0, if_neg h0]
   exact ⟨a, n, c, a', n', c', hn, hn', bx, ey e1, isS_offText hS hx he noText_three tt, isP_offText hP hx he noText_three tt⟩
 rw [← hE]
 clear hE hm hn hn' he hS hP
 go_enter Tryz.func89, Tryz.ntmps89
 go_wp2_with (first
  | (go_at_call 139; refine cF.mono ?_; rintro e w1 ⟨b, d, rfl, hI, hb⟩; have x1 := hx.below hb)
  | (go_at_call 137; refine (cB b d _ x1).mono ?_; rintro e w2 ⟨rfl, x2, ey, t2⟩))
 go_ret
 exact ⟨rfl, HF.out _ _ _ _ hI hb x2 ey t2⟩
def ctE (l E : Int) : Int := if l = 0 then 140 else E
def ctL (l E : Int) : Int := if E = 0 then (if 0 < l then l - 1 else l) else l
def ctV {α : Type} (l : Int) (x y : List α) : List α := if l = 0 then x else y
theorem MetAt.cells {X : World} {h : Nat} {l : Int} {bs : List ByteArray} {ps : List (Int × ByteArray)} (m : MetAt X h l bs ps) : X.cell? ⟨h, 2, none⟩ = some (.int .i64 l) ∧ X.frozen? ⟨h, 2, none⟩ = false := by
 obtain ⟨b, n, d, b', n', d', _, _, bx, _⟩ := m
 exact ⟨bx.1 2 _ rfl, bx.2 2 (by simp)⟩
theorem MetAt.lt {X : World} {h : Nat} {l : Int} {bs : List ByteArray} {ps : List (Int × ByteArray)} (m : MetAt X h l bs ps) : h < X.heap.size := by
 obtain ⟨b, n, d, b', n', d', _, _, bx, _⟩ := m
 exact bx.lt (by simp)
theorem MetAt.below {X Y : World} {h : Nat} {l : Int} {bs : List ByteArray} {ps : List (Int × ByteArray)} (m : MetAt X h l bs ps) (hb : Below X.heap.size X Y) : MetAt Y h l bs ps := by
 have hl := m.lt
 obtain ⟨b, n, d, b', n', d', e1, e2, bx, e, hS, hP⟩ := m
 exact ⟨b, n, d, b', n', d', e1, e2, bx.below hb, e.below hl hb, hS.below hb, hP.below hb⟩
theorem MetAt.left {X : World} {h : Nat} {l : Int} {bs : List ByteArray} {ps : List (Int × ByteArray)} (m : MetAt X h l bs ps) (k : Int) : MetAt (X.setCell ⟨h, 2, none⟩ (.int .i64 k)) h k bs ps := by
 obtain ⟨b, n, d, b', n', d', e1, e2, bx, e, hS, hP⟩ := m
 have t : Turns (fun k => k = h) X (X.setCell ⟨h, 2, none⟩ (.int .i64 k)) := (Turns.refl (fun k => k = h) X).setCell (p := ⟨h, 2, none⟩) rfl _
 exact ⟨b, n, d, b', n', d', e1, e2, bx.set 2 _, ends_set e (by omega), isS_offText hS bx e noText_three t, isP_offText hP bx e noText_three t⟩
set_option maxRecDepth 20000 in
set_option maxHeartbeats 1000000 in
theorem countS_any (h : Nat)  (l E : Int) (bs cs : List ByteArray) (ps qs : List (Int × ByteArray)) (w : World) (hm : MetAt w h l bs ps) (h64 : -9223372036854775808 ≤ l ∧ l ≤ 9223372036854775807)
  (hc : Calls Tryz.prog 89 #[.pointer (some ⟨h, 0, none⟩)] w fun e w' => e = .returned (.int .i64 E) ∧ MetAt w' h l cs qs ∧ Turns (fun k => k = h) w w') :
  Calls Tryz.prog 86 #[.pointer (some ⟨h, 0, none⟩), .func (.func 89) #[.pointer (some ⟨h, 0, none⟩)] #[]] w fun e w' => e = .returned (.int .i64 (ctE l E)) ∧ MetAt w' h (ctL l (ctE l E)) (ctV l bs cs) (ctV l ps qs) ∧ Turns (fun k => k = h) w w' := by
 obtain ⟨q2, f2⟩ := hm.cells
 by_cases h0 : l = 0
 ·
  subst h0
  have e1 : ctE 0 E = 140 := rfl
  rw [e1]
  have HM : Hid (MetAt w h (ctL 0 140) (ctV 0 bs cs) (ctV 0 ps qs)) := hm
  clear hm hc h64 e1
  go_enter Tryz.func86, Tryz.ntmps86
  go_wp2
  go_ret
  exact ⟨rfl, HM.out, Turns.refl _ _⟩
 ·
  have e1 : ctE l E = E := if_neg h0
  have e2 : ctV l bs cs = cs := if_neg h0
  have e3 : ctV l ps qs = qs := if_neg h0
  rw [e1, e2, e3]
  clear e1 e2 e3 hm
  by_cases hE : E = 0
  ·
   subst hE
   by_cases hl : 0 < l
   ·
    have e4 : ctL l 0 = l - 1 := by unfold ctL; rw [if_pos rfl, if_pos hl]
    have hw : IntKind.i64.wrap (l - 1) = l - 1 := i64_in _ (by omega) (by omega)
    rw [e4]
    clear e4 h64
    go_enter Tryz.func86, Tryz.ntmps86
    go_wp2_with (go_at_call 89; refine hc.mono ?_; rintro e w1 ⟨rfl, m1, t1⟩; clear q2 f2; obtain ⟨q2, f2⟩ := m1.cells; have HM : Hid (MetAt (w1.setCell ⟨h, 2, none⟩ (.int .i64 (l - 1))) h (l - 1) cs qs ∧ Turns (fun k => k = h) w (w1.setCell ⟨h, 2, none⟩ (.int .i64 (l - 1)))) := ⟨m1.left _, t1.setCell (p := ⟨h, 2, none⟩) rfl _⟩; clear m1 t1)
    go_ret
    exact ⟨rfl, HM.out⟩
   ·
    have e4 : ctL l 0 = l := by unfold ctL; rw [if_pos rfl, if_neg hl]
    rw [e4]
    clear e4 h64
    go_enter Tryz.func86, Tryz.ntmps86
    go_wp2_with (go_at_call 89; refine hc.mono ?_; rintro e w1 ⟨rfl, m1, t1⟩; clear q2 f2; obtain ⟨q2, f2⟩ := m1.cells; have HM : Hid (MetAt w1 h l cs qs ∧ Turns (fun k => k = h) w w1) := ⟨m1, t1⟩; clear m1 t1)
    go_ret
    exact ⟨rfl, HM.out⟩
  ·
   have e4 : ctL l E = l := if_neg hE
   rw [e4]
   clear e4 h64
   go_enter Tryz.func86, Tryz.ntmps86
   go_wp2_with (go_at_call 89; refine hc.mono ?_; rintro e w1 ⟨rfl, m1, t1⟩; clear q2 f2; obtain ⟨q2, f2⟩ := m1.cells; have HM : Hid (MetAt w1 h l cs qs ∧ Turns (fun k => k = h) w w1) := ⟨m1, t1⟩; clear m1 t1)
   go_ret
   exact ⟨rfl, HM.out⟩
set_option maxRecDepth 20000 in
set_option maxHeartbeats 1000000 in
theorem countW_any (h : Nat) (g g' : Nat) (l E : Int) (bs cs : List ByteArray) (ps qs : List (Int × ByteArray)) (w : World) (hm : MetAt w h l bs ps) (h64 : -9223372036854775808 ≤ l ∧ l ≤ 9223372036854775807)
  (hc : Calls Tryz.prog 87 #[.pointer (some ⟨g, 0, none⟩), .pointer (some ⟨g', 0, none⟩)] w fun e w' => e = .returned (.int .i64 E) ∧ MetAt w' h l cs qs ∧ Turns (fun k => k = h) w w') :
  Calls Tryz.prog 86 #[.pointer (some ⟨h, 0, none⟩), .func (.func 87) #[] #[.pointer (some ⟨g, 0, none⟩), .pointer (some ⟨g', 0, none⟩)]] w fun e w' => e = .returned (.int .i64 (ctE l E)) ∧ MetAt w' h (ctL l (ctE l E)) (ctV l bs cs) (ctV l ps qs) ∧ Turns (fun k => k = h) w w' := by
 obtain ⟨q2, f2⟩ := hm.cells
 by_cases h0 : l = 0
 ·
  subst h0
  have e1 : ctE 0 E = 140 := rfl
  rw [e1]
  have HM : Hid (MetAt w h (ctL 0 140) (ctV 0 bs cs) (ctV 0 ps qs)) := hm
  clear hm hc h64 e1
  go_enter Tryz.func86, Tryz.ntmps86
  go_wp2
  go_ret
  exact ⟨rfl, HM.out, Turns.refl _ _⟩
 ·
  have e1 : ctE l E = E := if_neg h0
  have e2 : ctV l bs cs = cs := if_neg h0
  have e3 : ctV l ps qs = qs := if_neg h0
  rw [e1, e2, e3]
  clear e1 e2 e3 hm
  by_cases hE : E = 0
  ·
   subst hE
   by_cases hl : 0 < l
   ·
    have e4 : ctL l 0 = l - 1 := by unfold ctL; rw [if_pos rfl, if_pos hl]
    have hw : IntKind.i64.wrap (l - 1) = l - 1 := i64_in _ (by omega) (by omega)
    rw [e4]
    clear e4 h64
    go_enter Tryz.func86, Tryz.ntmps86
    go_wp2_with (go_at_call 87; refine hc.mono ?_; rintro e w1 ⟨rfl, m1, t1⟩; clear q2 f2; obtain ⟨q2, f2⟩ := m1.cells; have HM : Hid (MetAt (w1.setCell ⟨h, 2, none⟩ (.int .i64 (l - 1))) h (l - 1) cs qs ∧ Turns (fun k => k = h) w (w1.setCell ⟨h, 2, none⟩ (.int .i64 (l - 1)))) := ⟨m1.left _, t1.setCell (p := ⟨h, 2, none⟩) rfl _⟩; clear m1 t1)
    go_ret
    exact ⟨rfl, HM.out⟩
   ·
    have e4 : ctL l 0 = l := by unfold ctL; rw [if_pos rfl, if_neg hl]
    rw [e4]
    clear e4 h64
    go_enter Tryz.func86, Tryz.ntmps86
    go_wp2_with (go_at_call 87; refine hc.mono ?_; rintro e w1 ⟨rfl, m1, t1⟩; clear q2 f2; obtain ⟨q2, f2⟩ := m1.cells; have HM : Hid (MetAt w1 h l cs qs ∧ Turns (fun k => k = h) w w1) := ⟨m1, t1⟩; clear m1 t1)
    go_ret
    exact ⟨rfl, HM.out⟩
  ·
   have e4 : ctL l E = l := if_neg hE
   rw [e4]
   clear e4 h64
   go_enter Tryz.func86, Tryz.ntmps86
   go_wp2_with (go_at_call 87; refine hc.mono ?_; rintro e w1 ⟨rfl, m1, t1⟩; clear q2 f2; obtain ⟨q2, f2⟩ := m1.cells; have HM : Hid (MetAt w1 h l cs qs ∧ Turns (fun k => k = h) w w1) := ⟨m1, t1⟩; clear m1 t1)
   go_ret
   exact ⟨rfl, HM.out⟩
def cwE (l : Int) (bs : List ByteArray) (ps : List (Int × ByteArray)) (k : Int) (s : ByteArray) : Int := ctE l (writeE bs ps k s)
def cwB (l : Int) (bs : List ByteArray) (ps : List (Int × ByteArray)) (k : Int) (s : ByteArray) : List ByteArray := ctV l bs (wrB bs ps k s)
def cwP (l : Int) (bs : List ByteArray) (ps : List (Int × ByteArray)) (k : Int) (s : ByteArray) : List (Int × ByteArray) := ctV l ps (wrP bs ps k s)
def csE (l : Int) (bs : List ByteArray) (ps : List (Int × ByteArray)) : Int := ctE l (rightE bs ps)
def csB (l : Int) (bs : List ByteArray) (ps : List (Int × ByteArray)) : List ByteArray := ctV l bs (flB bs ps)
def csP (l : Int) (bs : List ByteArray) (ps : List (Int × ByteArray)) : List (Int × ByteArray) := ctV l ps (flP bs ps)
theorem sync_any (h : Nat) (l : Int) (bs : List ByteArray) (ps : List (Int × ByteArray)) (w : World) (hm : MetAt w h l bs ps) (h64 : -9223372036854775808 ≤ l ∧ l ≤ 9223372036854775807) :
  Calls Tryz.prog 46 #[.pointer (some ⟨h, 0, none⟩)] w fun e w' => e = .returned (.int .i64 (csE l bs ps)) ∧ MetAt w' h (ctL l (csE l bs ps)) (csB l bs ps) (csP l bs ps) ∧ Turns (fun k => k = h) w w' := by
 show Calls _ _ _ _ fun e w' => e = .returned (.int .i64 (ctE l (rightE bs ps))) ∧ MetAt w' h (ctL l (ctE l (rightE bs ps))) (ctV l bs (flB bs ps)) (ctV l ps (flP bs ps)) ∧ Turns (fun k => k = h) w w'
 have cC := countS_any h l (rightE bs ps) bs (flB bs ps) ps (flP bs ps) w hm h64 (diskFlush_any h l bs ps w hm)
 generalize ctE l (rightE bs ps) = E at *
 clear hm h64
 go_enter Tryz.func46, Tryz.ntmps46
 go_wp2_with (go_at_call 86; refine cC.mono ?_; rintro e w1 ⟨rfl, m1, t1⟩)
 go_ret
 exact ⟨rfl, m1, t1⟩
set_option maxRecDepth 20000 in
set_option maxHeartbeats 1000000 in
theorem putOne_any (h g g' : Nat) (l : Int) (bs : List ByteArray) (ps : List (Int × ByteArray)) (k : Int) (s : ByteArray) (w : World) (hm : MetAt w h l bs ps) (hk6 : -9223372036854775808 ≤ k ∧ k ≤ 9223372036854775807) (hs : s.size ≤ maxLen) (q0 : w.cell? ⟨g, 0, none⟩ = some (.pointer (some ⟨h, 0, none⟩))) (q1 : w.cell? ⟨g', 0, none⟩ = some (.int .i64 k)) (q2 : w.cell? ⟨g', 1, none⟩ = some (.string s)) (hg : ¬ g = h) (hg' : ¬ g' = h) :
  Calls Tryz.prog 87 #[.pointer (some ⟨g, 0, none⟩), .pointer (some ⟨g', 0, none⟩)] w fun e w' => e = .returned (.int .i64 (writeE bs ps k s)) ∧ MetAt w' h l (wrB bs ps k s) (wrP bs ps k s) ∧ Turns (fun k => k = h) w w' := by
 have cW := diskWrite_any h l bs ps k s w.drew (hm.below (Below.refl _ _).drew) hk6 hs
 have HD : Hid (Turns (fun k => k = h) w w.drew) := (Turns.refl _ _).drew
 generalize writeE bs ps k s = E at *
 clear hm hk6 hs
 go_enter Tryz.func87, Tryz.ntmps87
 go_wp2
 go_region_held3 (fun V => V.cell? ⟨g, 0, none⟩ = some (.pointer (some ⟨h, 0, none⟩)) ∧ V.cell? ⟨g', 0, none⟩ = some (.int .i64 k) ∧ V.cell? ⟨g', 1, none⟩ = some (.string s)) (first | exact ⟨q0, q1, q2⟩ | exact ⟨t1.cell (p := ⟨g, 0, none⟩) hg q0, t1.cell (p := ⟨g', 0, none⟩) hg' q1, t1.cell (p := ⟨g', 1, none⟩) hg' q2⟩) (first
  | (go_at_call 88; refine cW.mono ?_; rintro e w1 ⟨rfl, m1, t1⟩))
 go_wp2
 go_ret
 exact ⟨rfl, m1, HD.out.trans t1⟩
set_option maxRecDepth 20000 in
set_option maxHeartbeats 1000000 in
theorem put_meter (h : Nat) (l : Int) (bs : List ByteArray) (ps : List (Int × ByteArray)) (k : Int) (s : ByteArray) (w : World) (hm : MetAt w h l bs ps) (h64 : -9223372036854775808 ≤ l ∧ l ≤ 9223372036854775807) (hk6 : -9223372036854775808 ≤ k ∧ k ≤ 9223372036854775807) (hs : s.size ≤ maxLen) :
  Calls Tryz.prog 44 #[.pointer (some ⟨h, 0, none⟩), .agg #[.int .i64 k, .string s]] w fun e w' => e = .returned (.int .i64 (cwE l bs ps k s)) ∧ MetAt w' h (ctL l (cwE l bs ps k s)) (cwB l bs ps k s) (cwP l bs ps k s) ∧ Turns (fun k => k = h) w w' := by
 obtain ⟨W, hW⟩ : ∃ W, W = (w.alloc (.cells #[.pointer (some ⟨h, 0, none⟩)] 83)).alloc (.cells #[.int .i64 k, .string s] 66) := ⟨_, rfl⟩
 have hA : Below w.heap.size w W := by rw [hW]; exact ((Below.refl _ _).alloc (Nat.le_refl _) _).alloc (by simp) _
 have b0 : BoxL W w.heap.size [.pointer (some ⟨h, 0, none⟩)] := by rw [hW]; exact (boxL_new w [_] _ rfl).alloc _
 have b1 : BoxL W (w.heap.size + 1) [.int .i64 k, .string s] := by rw [hW]; exact boxL_new _ [_, _] _ (by simp)
 have hl := hm.lt
 have m1 := hm.below hA
 have q0 := b0.1 0 _ rfl
 have q1 := b1.1 0 _ rfl
 have q2 := b1.1 1 _ rfl
 have cC := countW_any h w.heap.size (w.heap.size + 1) l (writeE bs ps k s) bs (wrB bs ps k s) ps (wrP bs ps k s) W m1 h64 (putOne_any h w.heap.size (w.heap.size + 1) l bs ps k s W m1 hk6 hs q0 q1 q2 (by omega) (by omega))
 have HT : Hid (Turns (fun k => k = h) w W) := Turns.of_below hA
 show Calls _ _ _ _ fun e w' => e = .returned (.int .i64 (ctE l (writeE bs ps k s))) ∧ MetAt w' h (ctL l (ctE l (writeE bs ps k s))) (ctV l bs (wrB bs ps k s)) (ctV l ps (wrP bs ps k s)) ∧ Turns (fun k => k = h) w w'
 generalize ctE l (writeE bs ps k s) = E at *
 rw [hW] at q0
 clear hm h64 hk6 hs m1 b0 b1 q1 q2 hA hl
 go_enter Tryz.func44, Tryz.ntmps44
 go_wp2_with (go_at_call 86; rw [← hW]; refine cC.mono ?_; rintro e w1 ⟨rfl, m1, t1⟩)
 go_ret
 exact ⟨rfl, m1, HT.out.trans t1⟩
def PowC (w : World) (E l : Int) (bs : List ByteArray) (ps : List (Int × ByteArray)) (e : Ending) (w' : World) : Prop :=
 ∃ a n c a' n' c', n = bs.length ∧ n' = ps.length ∧ e = .returned (.tuple #[.agg #[.slice a n c, .slice a' n' c', .int .i64 l], .int .i64 E]) ∧ IsS w' a c bs ∧ IsP w' a' c' ps ∧ Below w.heap.size w w'
def ResB (X : World) (z : Nat) : Prop := BoxL X z [.slice none 0 0, .slice none 0 0, .int .i64 0] ∧ Ends X z 3
theorem ResB.below {X Y : World} {z : Nat} (r : ResB X z) (hb : Below X.heap.size X Y) : ResB Y z := ⟨r.1.below hb, r.2.below (r.1.lt (by simp)) hb⟩
theorem ResB.turns {X Y : World} {z h : Nat} (r : ResB X z) (t : Turns (fun k => k = h) X Y) (hn : ¬ z = h) : ResB Y z :=
 ⟨⟨fun i v hv => t.cell (p := ⟨z, i, none⟩) hn (r.1.1 i v hv), fun i hi => t.frozen (p := ⟨z, i, none⟩) (r.1.lt (by simp)) hn (r.1.2 i hi)⟩, r.2.turns t (r.1.lt (by simp)) hn⟩
def res3 (X : World) (z : Nat) (v0 v1 v2 : Value) : World := ((X.setCell ⟨z, 0, none⟩ v0).setCell ⟨z, 1, none⟩ v1).setCell ⟨z, 2, none⟩ v2
theorem res_done {w X : World} {z : Nat} {E l : Int} {bs : List ByteArray} {ps : List (Int × ByteArray)} {a a' : Option Addr} {n c n' c' : Nat} (r : ResB X z) (hz : w.heap.size ≤ z) (hB : Below w.heap.size w X) (hn : n = bs.length) (hn' : n' = ps.length) (hS : IsS X a c bs) (hP : IsP X a' c' ps) :
  BoxL (res3 X z (.slice a n c) (.slice a' n' c') (.int .i64 l)) z [.slice a n c, .slice a' n' c', .int .i64 l] ∧ PowC w E l bs ps (.returned (.tuple #[.agg #[.slice a n c, .slice a' n' c', .int .i64 l], .int .i64 E])) (res3 X z (.slice a n c) (.slice a' n' c') (.int .i64 l)) := by
 have t : Turns (fun k => k = z) X (res3 X z (.slice a n c) (.slice a' n' c') (.int .i64 l)) := (((Turns.refl (fun k => k = z) X).setCell (p := ⟨z, 0, none⟩) rfl _).setCell (p := ⟨z, 1, none⟩) rfl _).setCell (p := ⟨z, 2, none⟩) rfl _
 exact ⟨((r.1.set 0 _).set 1 _).set 2 _, a, n, c, a', n', c', hn, hn', rfl, isS_offText hS r.1 r.2 noText_three t, isP_offText hP r.1 r.2 noText_three t, Below.turns hB t (fun i e => by omega)⟩
set_option maxRecDepth 20000 in
set_option maxHeartbeats 2000000 in
theorem pagerWrite_any (a a' : Option Addr) (n n' c c' : Nat) (l : Int) (bs : List ByteArray) (ps : List (Int × ByteArray)) (k : Int) (s : ByteArray) (w : World) (hn : n = bs.length) (hn' : n' = ps.length) (hS : IsS w a c bs) (hP : IsP w a' c' ps) (h1 : n ≤ 4096) (h2 : n' ≤ 4096) (h64 : -9223372036854775808 ≤ l ∧ l ≤ 9223372036854775807) (hk6 : -9223372036854775808 ≤ k ∧ k ≤ 9223372036854775807) (hs : s.size ≤ maxLen) :
  Calls Tryz.prog 15 #[.agg #[.slice a n c, .slice a' n' c', .int .i64 l], .int .i64 k, .string s] w fun e w' => PowC w (cwE l bs ps k s) (ctL l (cwE l bs ps k s)) (cwB l bs ps k s) (cwP l bs ps k s) e w' := by
 obtain ⟨W, hW⟩ : ∃ W, W = (w.alloc (.cells #[.slice a n c, .slice a' n' c', .int .i64 l] 47)).alloc (.cells #[.slice none 0 0, .slice none 0 0, .int .i64 0] 47) := ⟨_, rfl⟩
 have hA : Below w.heap.size w W := by rw [hW]; exact ((Below.refl _ _).alloc (Nat.le_refl _) _).alloc (by simp) _
 have b0 : BoxL W w.heap.size [.slice a n c, .slice a' n' c', .int .i64 l] := by rw [hW]; exact (boxL_new w [_, _, _] _ rfl).alloc _
 have r0 : ResB W (w.heap.size + 1) := by rw [hW]; exact ⟨boxL_new _ [_, _, _] _ (by simp), ends_new _ [_, _, _] _ (by simp)⟩
 have hWs : w.heap.size + 1 < W.heap.size := r0.1.lt (by simp)
 have cM := metered_any a a' n n' c c' l bs ps W hn hn' (hS.below hA) (hP.below hA) h1 h2
 have cX := fun h V m => put_meter h l bs ps k s V m h64 hk6 hs
 have HN : Hid (n = bs.length ∧ n' = ps.length) := ⟨hn, hn'⟩
 have q0 := b0.1 0 _ rfl
 have q1 := b0.1 1 _ rfl
 have q2 := b0.1 2 _ rfl
 rw [hW] at q0 q1 q2
 generalize cwE l bs ps k s = E at *
 generalize cwB l bs ps k s = B at *
 generalize cwP l bs ps k s = P at *
 generalize ctL l E = L at *
 clear hn hn' hS hP h1 h2 h64 b0
 go_enter Tryz.func15, Tryz.ntmps15
 go_wp2_with (first
  | (go_at_call 43; rw [← hW]; refine cM.mono ?_; rintro e w1 ⟨h, b, d, b', d', rfl, bx, be, iS, iP, hh, hb⟩; have HB : Below w.heap.size w w1 := Below.tr hA hb; have m1 : MetAt w1 h l bs ps := ⟨b, n, d, b', n', d', HN.out.1, HN.out.2, bx, be, iS, iP⟩; have r1 := r0.below hb; have hlt : w.heap.size + 1 < h := Nat.lt_of_lt_of_le hWs hh; have hhl : h < w1.heap.size := m1.lt; clear bx be iS iP hb hh)
  | (go_at_call 44; refine (cX h _ m1).mono ?_; rintro e w2 ⟨rfl, m2, t2⟩; replace HB : Below w.heap.size w w2 := Below.turns HB t2 (fun i e => by omega); replace r1 := r1.turns t2 (by omega); clear t2; obtain ⟨xa, xn, xc, ya, yn, yc, en, en', bx, be, iS, iP⟩ := m2; have HM : Hid (xn = B.length ∧ yn = P.length) := ⟨en, en'⟩; clear en en')
  | (go_at_call 45; refine (power_any h _ _ _ _ _ _ _ _ bx).mono ?_; rintro e w3 ⟨rfl, hb3⟩; replace HB : Below w.heap.size w w3 := Below.tr HB hb3; replace r1 := r1.below hb3; replace iS := iS.below hb3; replace iP := iP.below hb3; obtain ⟨z, hz⟩ : ∃ z, z = w.heap.size + 1 := ⟨_, rfl⟩; rw [← hz] at r1; have g0 := r1.1.1 0 _ rfl; have g1 := r1.1.1 1 _ rfl; have g2 := r1.1.1 2 _ rfl; have f0 := r1.1.2 0 (by simp); have f1 := r1.1.2 1 (by simp); have f2 := r1.1.2 2 (by simp); obtain ⟨y, hy⟩ := res_done (E := E) (l := L) r1 (by omega) HB HM.out.1 HM.out.2 iS iP; have y0 := y.1 0 _ rfl; have y1 := y.1 1 _ rfl; have y2 := y.1 2 _ rfl; unfold res3 at y0 y1 y2 hy; have HY : Hid (PowC w E L B P _ _) := hy; clear hb3 bx be iS iP HB r1 y hy; rw [hz] at g0 g1 g2 f0 f1 f2 y0 y1 y2 HY; clear hz))
 exact bodyPost_ret (v := .tuple #[.agg #[.slice xa xn xc, .slice ya yn yc, .int .i64 L], .int .i64 E]) (by simp [results, Tryz.results15, go_sem, y0, y1, y2]) rfl HY.out
set_option maxRecDepth 20000 in
set_option maxHeartbeats 2000000 in
theorem pagerFlush_any (a a' : Option Addr) (n n' c c' : Nat) (l : Int) (bs : List ByteArray) (ps : List (Int × ByteArray))  (w : World) (hn : n = bs.length) (hn' : n' = ps.length) (hS : IsS w a c bs) (hP : IsP w a' c' ps) (h1 : n ≤ 4096) (h2 : n' ≤ 4096) (h64 : -9223372036854775808 ≤ l ∧ l ≤ 9223372036854775807)  :
  Calls Tryz.prog 16 #[.agg #[.slice a n c, .slice a' n' c', .int .i64 l]] w fun e w' => PowC w (csE l bs ps) (ctL l (csE l bs ps)) (csB l bs ps) (csP l bs ps) e w' := by
 obtain ⟨W, hW⟩ : ∃ W, W = (w.alloc (.cells #[.slice a n c, .slice a' n' c', .int .i64 l] 47)).alloc (.cells #[.slice none 0 0, .slice none 0 0, .int .i64 0] 47) := ⟨_, rfl⟩
 have hA : Below w.heap.size w W := by rw [hW]; exact ((Below.refl _ _).alloc (Nat.le_refl _) _).alloc (by simp) _
 have b0 : BoxL W w.heap.size [.slice a n c, .slice a' n' c', .int .i64 l] := by rw [hW]; exact (boxL_new w [_, _, _] _ rfl).alloc _
 have r0 : ResB W (w.heap.size + 1) := by rw [hW]; exact ⟨boxL_new _ [_, _, _] _ (by simp), ends_new _ [_, _, _] _ (by simp)⟩
 have hWs : w.heap.size + 1 < W.heap.size := r0.1.lt (by simp)
 have cM := metered_any a a' n n' c c' l bs ps W hn hn' (hS.below hA) (hP.below hA) h1 h2
 have cX := fun h V m => sync_any h l bs ps V m h64
 have HN : Hid (n = bs.length ∧ n' = ps.length) := ⟨hn, hn'⟩
 have q0 := b0.1 0 _ rfl
 have q1 := b0.1 1 _ rfl
 have q2 := b0.1 2 _ rfl
 rw [hW] at q0 q1 q2
 generalize csE l bs ps = E at *
 generalize csB l bs ps = B at *
 generalize csP l bs ps = P at *
 generalize ctL l E = L at *
 clear hn hn' hS hP h1 h2 h64 b0
 go_enter Tryz.func16, Tryz.ntmps16
 go_wp2_with (first
  | (go_at_call 43; rw [← hW]; refine cM.mono ?_; rintro e w1 ⟨h, b, d, b', d', rfl, bx, be, iS, iP, hh, hb⟩; have HB : Below w.heap.size w w1 := Below.tr hA hb; have m1 : MetAt w1 h l bs ps := ⟨b, n, d, b', n', d', HN.out.1, HN.out.2, bx, be, iS, iP⟩; have r1 := r0.below hb; have hlt : w.heap.size + 1 < h := Nat.lt_of_lt_of_le hWs hh; have hhl : h < w1.heap.size := m1.lt; clear bx be iS iP hb hh)
  | (go_at_call 46; refine (cX h _ m1).mono ?_; rintro e w2 ⟨rfl, m2, t2⟩; replace HB : Below w.heap.size w w2 := Below.turns HB t2 (fun i e => by omega); replace r1 := r1.turns t2 (by omega); clear t2; obtain ⟨xa, xn, xc, ya, yn, yc, en, en', bx, be, iS, iP⟩ := m2; have HM : Hid (xn = B.length ∧ yn = P.length) := ⟨en, en'⟩; clear en en')
  | (go_at_call 45; refine (power_any h _ _ _ _ _ _ _ _ bx).mono ?_; rintro e w3 ⟨rfl, hb3⟩; replace HB : Below w.heap.size w w3 := Below.tr HB hb3; replace r1 := r1.below hb3; replace iS := iS.below hb3; replace iP := iP.below hb3; obtain ⟨z, hz⟩ : ∃ z, z = w.heap.size + 1 := ⟨_, rfl⟩; rw [← hz] at r1; have g0 := r1.1.1 0 _ rfl; have g1 := r1.1.1 1 _ rfl; have g2 := r1.1.1 2 _ rfl; have f0 := r1.1.2 0 (by simp); have f1 := r1.1.2 1 (by simp); have f2 := r1.1.2 2 (by simp); obtain ⟨y, hy⟩ := res_done (E := E) (l := L) r1 (by omega) HB HM.out.1 HM.out.2 iS iP; have y0 := y.1 0 _ rfl; have y1 := y.1 1 _ rfl; have y2 := y.1 2 _ rfl; unfold res3 at y0 y1 y2 hy; have HY : Hid (PowC w E L B P _ _) := hy; clear hb3 bx be iS iP HB r1 y hy; rw [hz] at g0 g1 g2 f0 f1 f2 y0 y1 y2 HY; clear hz))
 exact bodyPost_ret (v := .tuple #[.agg #[.slice xa xn xc, .slice ya yn yc, .int .i64 L], .int .i64 E]) (by simp [results, Tryz.results16, go_sem, y0, y1, y2]) rfl HY.out
end Go.Proofs.YtaobfgplheoefaaGreat
namespace Go.Proofs.YtaobfgplheoefaaGreat
open Go.RowKit Plain Go.ChangeShapes Go.WideShapes
set_option linter.unusedVariables false
set_option maxRecDepth 20000
theorem open_P {H : Type} {enc : TypeId × Value → H} {w : World} {fuel : Nat} {v : Value} {x : DataW H × List MemPlace}
  (h : DataW.trod enc Tryz.prog w 0 (fun _ => true) true fuel 23 [v] = some x) : ∃ a c ps, v = .slice a ps.length c ∧ IsP w a c ps := by
 rcases Deep.open_slice_pairs Tryz.underlying23 Tryz.underlying66 (by kernel_rfl) rfl rfl (by kernel_rfl) (by kernel_rfl) h with ⟨hcs, _⟩ | ⟨a, l, c, m, n, V0, V1, D0, D1, P0, P1, hcs, _, hl, hm, hmm, _, hcell⟩
 ·
  simp at hcs
  exact ⟨none, 0, [], hcs, IsP_nil _⟩
 ·
  simp at hcs
  simp at hmm
  have each : ∀ i, i < m → ∃ p : Int × ByteArray, w.cell? (a.add (i * 2)) = some (.int .i64 p.1) ∧ w.cell? (a.add (i * 2 + 1)) = some (.string p.2) ∧ p.2.size ≤ maxLen ∧ -9223372036854775808 ≤ p.1 ∧ p.1 ≤ 9223372036854775807 := by
   intro i hi
   obtain ⟨h0, h1, g0, g1⟩ := hcell i hi
   obtain ⟨k, hk, _, hkw⟩ := DataW.trod_int (k := .i64) Tryz.underlying3 g0
   obtain ⟨s, hs, _, hss⟩ := DataW.trod_string Tryz.underlying9 g1
   simp at hk hs
   rw [hk] at h0
   rw [hs] at h1
   have hb : -9223372036854775808 ≤ k ∧ k ≤ 9223372036854775807 := by simpa [Lit.wf, IntKind.min, IntKind.max, IntKind.signed, IntKind.bits] using hkw
   exact ⟨(k, s), h0, h1, hss, hb.1, hb.2⟩
  obtain ⟨q, hq⟩ := Deep.choose_lt each
  refine ⟨some a, c, (List.range l).map q, by rw [List.length_map, List.length_range]; exact hcs, by rw [List.length_map, List.length_range]; exact hl, hm, fun j p hp => ?_⟩
  have hj : j < l := by
   have := (List.getElem?_eq_some_iff.1 hp).1
   rw [List.length_map, List.length_range] at this; exact this
  rw [List.getElem?_map, List.getElem?_range hj] at hp
  obtain rfl : q j = p := Option.some.inj hp
  obtain ⟨h0, h1, h2⟩ := hq j (by omega)
  obtain ⟨b, o, rfl, hb⟩ := spot_none (hq 0 (by omega)).1
  rw [at_add] at h0 h1
  exact ⟨b, o, rfl, hb, h0, by rw [Nat.add_assoc]; exact h1, h2⟩
end Go.Proofs.YtaobfgplheoefaaGreat
namespace Go.Proofs.YtaobfgplheoefaaGreat
open Go.RowKit Plain Anylast
set_option linter.unusedVariables false
set_option maxRecDepth 20000
theorem KeptD.isI {g : Nat} {W wr : World} (h : KeptD g W wr) {a : Option Addr} {c : Nat} {ms : List Int} {w : World} (hP : IsI w a c ms) (hW : Below w.heap.size w W) (hg : w.heap.size ≤ g) : IsI wr a c ms := by
 refine ⟨hP.1, hP.2.1, fun j p hp => ?_⟩
 obtain ⟨b, o, ha, hlt, hc⟩ := hP.2.2 j p hp
 exact ⟨b, o, ha, Nat.lt_of_lt_of_le hlt (Nat.le_trans hW.size h.1), h.cell (by show b ≠ g; omega) (cell_below hW hc)⟩
theorem cell_set {w : World} {b o g k : Nat} {v u : Value} (hn : b ≠ g) (h : w.cell? ⟨b, o, none⟩ = some v) : (w.setCell ⟨g, k, none⟩ u).cell? ⟨b, o, none⟩ = some v := by
 rw [World.cell?_setCell_other _ _ _ _ (fun hh => hn (by cases hh; rfl))]; exact h
def maskAt (ms : List Int) (i : Nat) : Int := ms[i]?.getD 0
def crashN (m : Nat → Int) (bs : List ByteArray) (ps : List (Int × ByteArray)) (j : Nat) : List ByteArray := crashOn m 0 bs (ps.take j)
theorem crashN_length (m : Nat → Int) (bs : List ByteArray) (ps : List (Int × ByteArray)) (j : Nat) : (crashN m bs ps j).length = bs.length := crashOn_length _ _ _ _
theorem crashN_succ (m : Nat → Int) (bs : List ByteArray) {ps : List (Int × ByteArray)} {j : Nat} {p : Int × ByteArray} (hp : ps[j]? = some p) :
  crashN m bs ps (j + 1) = (crashN m bs ps j).set p.1.toNat (mixS (blk (crashN m bs ps j) p.1.toNat) p.2 (m j)) := by
 have hj := (List.getElem?_eq_some_iff.1 hp).1
 unfold crashN
 rw [List.take_add_one, hp]
 show crashOn _ 0 bs (ps.take j ++ [p]) = _
 rw [crashOn_snoc, List.length_take, Nat.min_eq_left (by omega), Nat.zero_add]
theorem crash_all {bs : List ByteArray} {ps : List (Int × ByteArray)} (m : Nat → Int) : crashL m bs ps = crashN m bs ps ps.length := by
 unfold crashN crashL
 rw [List.take_length]
theorem blk_get {bs : List ByteArray} {k : Nat} (h : k < bs.length) : bs[k]? = some (blk bs k) := by
 unfold blk
 rw [List.getElem?_eq_getElem h]; rfl
end Go.Proofs.YtaobfgplheoefaaGreat
namespace Go.Proofs.YtaobfgplheoefaaGreat
open Go.RowKit Plain
set_option linter.unusedVariables false
set_option maxHeartbeats 400000 in
theorem devRefTrim_any (s : ByteArray) (w : World) (hs : s.size ≤ maxLen) :
  Calls Tryz.prog 91 #[.string s] w fun e w' => e = .returned (.string (trimS s)) ∧ w = w' := by
 unfold maxLen at hs
 go_enter Tryz.func91, Tryz.ntmps91
 go_wp2
 go_loop [3] (fun v => ∃ k : Nat, k ≤ s.size ∧ v = .int .i64 k ∧ trimN s s.size = trimN s k) (fun v => (intOf v).toNat)
 case atStart => exact ⟨s.size, by omega, rfl, rfl⟩
 case round =>
  obtain ⟨k, hk, rfl, HT⟩ := hrel
  have HT' : Hid (trimN s s.size = trimN s k) := HT
  clear HT
  match k, hk, HT' with
  | 0, hk, HT' =>
   have e0 : Hid (trimS s = ByteArray.empty) := trimS_none s HT'.out
   go_wp2
   go_ret
   exact ⟨ret_str e0.out.symm, rfl⟩
  | k + 1, hk, HT' =>
   have ek : (((k + 1 : Nat) : Int)) = (k : Int) + 1 := by omega
   rw [ek]
   by_cases hz : s[k] = 0
   ·
    have ht : Hid (trimN s (k + 1) = trimN s k) := trimN_down s k (by omega) hz
    have hz' : ((s[k].toNat : Int) == 0) = true := by rw [hz]; rfl
    clear hz
    go_wp2
    go_round
    case rel => exact ⟨k, by omega, rfl, by rw [HT'.out, ht.out]⟩
    case measure => simp [intOf]
   ·
    have ht : Hid (trimN s (k + 1) = k + 1) := trimN_stay s k (by omega) hz
    have hz' : ((s[k].toNat : Int) == 0) = false := by
     have : s[k].toNat ≠ 0 := fun h => hz (UInt8.toNat_inj.1 h)
     simpa using this
    clear hz
    go_wp2
    go_ret
    exact ⟨ret_str (by rw [trimS, HT'.out, ht.out]), rfl⟩
theorem devConv_own (w : World) (base g n cap : Nat) (l : List UInt8) (hl : l.length = n) (h : w.ownsRow base 5 1 (.slice (some ⟨g, 0, none⟩) n cap) n (l.map cellOf)) :
  (convert 116 9 (.slice (some ⟨g, 0, none⟩) n cap)).run Tryz.prog w = .ok (.string ⟨l.toArray⟩) w := by
 subst hl
 refine run_convert_bytes_back (P := Tryz.prog) _ 116 9 5 ⟨g, 0, none⟩ cap l Tryz.underlying116 Tryz.underlying5 Tryz.underlying9 fun j hj => ?_
 exact h.cells (g := g) rfl j _ (by simp [cellOf, hj])
set_option maxHeartbeats 400000 in
theorem devRefAt_any (s : ByteArray) (i : Nat) (w : World) (hs : s.size ≤ maxLen) :
  Calls Tryz.prog 140 #[.string s, .int .i64 i] w fun e w' => e = .returned (cellOf (byteAt s i)) ∧ w = w' := by
 unfold maxLen at hs
 by_cases h : i < s.size
 ·
  have hb : Hid (cellOf (byteAt s i) = .int .u8 (s[i].toNat : Int)) := by
   show cellOf (byteAt s i) = _
   unfold byteAt cellOf
   rw [List.getElem?_eq_getElem (show i < s.data.toList.length from h)]
   rfl
  have h' : (i : Int) < s.size := by omega
  go_enter Tryz.func140, Tryz.ntmps140
  go_wp2
  go_ret
  exact ⟨by rw [hb.out]; rfl, rfl⟩
 ·
  have hb : Hid (cellOf (byteAt s i) = .int .u8 0) := by
   show cellOf (byteAt s i) = _
   rw [byteAt_out (by omega)]; rfl
  have h' : ¬ (i : Int) < s.size := by omega
  go_enter Tryz.func140, Tryz.ntmps140
  go_wp2
  go_ret
  exact ⟨by rw [hb.out]; rfl, rfl⟩
theorem tmod_bit (q : Int) : (q.tmod 2 != 0) = (q % 2 != 0) := by
 have h := Int.tmod_eq_emod (a := q) (b := 2)
 by_cases h0 : q % 2 = 0
 ·
  have : q.tmod 2 = 0 := Int.tmod_eq_zero_of_dvd (by omega)
  rw [this, h0]
 ·
  have h1 : q.tmod 2 ≠ 0 := fun hh => h0 (by have := Int.dvd_of_tmod_eq_zero hh; omega)
  rw [show (q.tmod 2 != 0) = true by simpa using h1, show (q % 2 != 0) = true by simpa using h0]
theorem mixL_succ (o n : ByteArray) (m : Int) (i : Nat) : mixL o n m (i + 1) = mixL o n m i ++ [mixB o n m i] := by
 unfold mixL
 rw [List.range_succ, List.map_append]; rfl
set_option maxRecDepth 20000 in
set_option maxHeartbeats 1000000 in
theorem refMix_any (o n : ByteArray) (m : Int) (w : World) (ho : o.size ≤ maxLen) (hn : n.size ≤ maxLen) :
  Calls Tryz.prog 90 #[.string o, .string n, .int .i64 m] w fun e w' => e = .returned (.string (mixS o n m)) ∧ Below w.heap.size w w' := by
 obtain ⟨i0, hi, hz0, hz1, hz2⟩ := info_parts Tryz.info5
 obtain ⟨x, hx, hxs⟩ : ∃ x : ByteArray, Hid (x = (⟨(mixL o n m 4096).toArray⟩ : ByteArray)) ∧ x.size ≤ maxLen := by
  refine ⟨_, rfl, ?_⟩
  rw [size_mk, mixL_length]; unfold maxLen; omega
 have e : Hid (mixS o n m = trimS x) := by show mixS o n m = _; unfold mixS; rw [hx.out]
 go_enter Tryz.func90, Tryz.ntmps90
 go_wp2
 go_loopw [7, 8] (fun b v wr => ∃ j : Nat, j ≤ 4096 ∧ v = .int .i64 j ∧ wr.ownsRow w.heap.size 5 1 b j ((mixL o n m j).map cellOf) ∧ Below w.heap.size w wr) (fun _ v _ => 4096 - (intOf v).toNat)
 case atStart =>
  refine ⟨0, by omega, rfl, ?_, (Below.refl _ _).alloc (Nat.le_refl _) _⟩
  exact World.ownsRow_made _ _ 0 (Nat.le_refl _) (by decide) rfl
 case round =>
  obtain ⟨j, hj, rfl, hown, hbel⟩ := hrel
  by_cases hlt : j < 4096
  ·
   have hbs := hbel.size
   have hbit : ((m / 2 ^ (j / 512)).tmod 2 != 0) = bitOn m (j / 512) := tmod_bit _
   obtain ⟨y, hy, ca⟩ : ∃ y : Int, Hid ((mixL o n m (j + 1)).map cellOf = (mixL o n m j).map cellOf ++ [.int .u8 y]) ∧ ∀ W, Calls Tryz.prog 140 #[.string (if bitOn m (j / 512) = true then n else o), .int .i64 j] W fun e w' => e = .returned (.int .u8 y) ∧ W = w' := by
    refine ⟨((mixB o n m j).toNat : Int), ?_, fun W => ?_⟩
    ·
     show _ = _
     rw [mixL_succ, List.map_append]; rfl
    ·
     have : mixB o n m j = byteAt (if bitOn m (j / 512) = true then n else o) j := by unfold mixB; split <;> rfl
     rw [this]
     exact devRefAt_any _ j W (by split; exact hn; exact ho)
   by_cases hb : bitOn m (j / 512) = true
   ·
    rw [hb] at hbit
    rw [if_pos hb] at ca
    clear hb hx e
    go_wp2_with (first
     | (go_at_call 140; refine (ca _).mono ?_; rintro e w' ⟨rfl, rfl⟩)
     | (at_builtin; refine wpList_append_own _ rfl _ _ 116 rfl w.heap.size 5 i0 (.int .u8 0) 1 1 Tryz.underlying116 hi hz0 hz1 hz2 rfl (by decide) _ _ _ rfl (hown.alloc _) ⟨wr.heap.size, 0, none⟩ 1 1 [.int .u8 y] rfl rfl ?c1 ?c2 ?c3 ?c4 ?c5 ?_))
    case c1 =>
     intro j u hj
     match j, hj with
     | 0, hj => simp at hj; subst hj; simp [Addr.add]
    case c2 => intro u hu; simp at hu; subst hu; rfl
    case c3 => unfold maxLen; omega
    case c4 => omega
    case c5 => simp; omega
    ·
     intro v' w1 hown' hgrow _
     have R2 : Below w.heap.size w w1 := (hbel.alloc (by omega) _).grown hgrow (by simp; omega) (fun k hk => (hown.lt k hk).1)
     have R : Hid (w1.ownsRow w.heap.size 5 1 v' (j + 1) ((mixL o n m (j + 1)).map cellOf)) := by show World.ownsRow _ _ _ _ _ _ _; rw [hy.out]; exact hown'
     clear hown' hgrow hown
     go_wp2
     go_roundw
     case rel => exact ⟨j + 1, by omega, by go_num, R.out, R2⟩
     case measure => simp [intOf]; omega
   ·
    have hb' : bitOn m (j / 512) = false := by simpa using hb
    rw [hb'] at hbit
    rw [if_neg hb] at ca
    clear hb hb' hx e
    go_wp2_with (first
     | (go_at_call 140; refine (ca _).mono ?_; rintro e w' ⟨rfl, rfl⟩)
     | (at_builtin; refine wpList_append_own _ rfl _ _ 116 rfl w.heap.size 5 i0 (.int .u8 0) 1 1 Tryz.underlying116 hi hz0 hz1 hz2 rfl (by decide) _ _ _ rfl (hown.alloc _) ⟨wr.heap.size, 0, none⟩ 1 1 [.int .u8 y] rfl rfl ?c1 ?c2 ?c3 ?c4 ?c5 ?_))
    case c1 =>
     intro j u hj
     match j, hj with
     | 0, hj => simp at hj; subst hj; simp [Addr.add]
    case c2 => intro u hu; simp at hu; subst hu; rfl
    case c3 => unfold maxLen; omega
    case c4 => omega
    case c5 => simp; omega
    ·
     intro v' w1 hown' hgrow _
     have R2 : Below w.heap.size w w1 := (hbel.alloc (by omega) _).grown hgrow (by simp; omega) (fun k hk => (hown.lt k hk).1)
     have R : Hid (w1.ownsRow w.heap.size 5 1 v' (j + 1) ((mixL o n m (j + 1)).map cellOf)) := by show World.ownsRow _ _ _ _ _ _ _; rw [hy.out]; exact hown'
     clear hown' hgrow hown
     go_wp2
     go_roundw
     case rel => exact ⟨j + 1, by omega, by go_num, R.out, R2⟩
     case measure => simp [intOf]; omega
  ·
   obtain rfl : j = 4096 := by omega
   obtain ⟨g, cap, rfl, -, -⟩ := hown.form (by omega)
   have hcv := devConv_own wr w.heap.size g 4096 cap _ (mixL_length o n m 4096) hown
   rw [← hx.out] at hcv
   clear hown hx
   go_wp2_with (go_at_call 91; refine (devRefTrim_any x _ hxs).mono ?_; rintro e w3 ⟨rfl, rfl⟩)
   go_ret
   exact ⟨ret_str e.out.symm, hbel⟩
end Go.Proofs.YtaobfgplheoefaaGreat
namespace Go.Proofs.YtaobfgplheoefaaGreat
open Go.RowKit Plain Anylast
set_option linter.unusedVariables false
theorem KeptD.grown {g : Nat} {W wr w' : World} {row : Option Nat} (h : KeptD g W wr) (hg : wr.grownBy w' row) (hr : ∀ k, row = some k → W.heap.size ≤ k) : KeptD g W w' :=
 ⟨Nat.le_trans h.1 hg.size, fun k hk hn => by rw [hg.block k (Nat.lt_of_lt_of_le hk h.1) (fun he => by have := hr k he.symm; omega)]; exact h.2 k hk hn⟩
theorem KeptD.alloc {g : Nat} {W wr : World} (h : KeptD g W wr) (o : Obj) : KeptD g W (wr.alloc o) := h.below ((Below.refl _ _).alloc (Nat.le_refl _) _)
theorem grown_cell {w w' : World} {row : Option Nat} {b o : Nat} {v : Value} (hg : w.grownBy w' row) (hr : ∀ k, row = some k → b < k) (h : w.cell? ⟨b, o, none⟩ = some v) : w'.cell? ⟨b, o, none⟩ = some v := by
 rw [World.cell?_of_block (w := w) (hg.block b (cell_lt h) (fun he => by have := hr b he.symm; omega))]; exact h
theorem grown_frozen {w w' : World} {row : Option Nat} {b o : Nat} (hg : w.grownBy w' row) (hl : b < w.heap.size) (hr : ∀ k, row = some k → b < k) (h : w.frozen? ⟨b, o, none⟩ = false) : w'.frozen? ⟨b, o, none⟩ = false := by
 rw [World.frozen?_of_block (w := w) (hg.block b hl (fun he => by have := hr b he.symm; omega))]; exact h
theorem three_boxes {w W : World} {v0 v1 u0 u1 x0 x1 : Value} {t : TypeId} (hW : W = ((w.alloc (.cells #[v0, v1] t)).alloc (.cells #[u0, u1] t)).alloc (.cells #[x0, x1] t)) :
  Below w.heap.size w W ∧ W.heap.size = w.heap.size + 3 ∧ (W.cell? ⟨w.heap.size, 0, none⟩ = some v0 ∧ W.cell? ⟨w.heap.size, 1, none⟩ = some v1) ∧ (W.cell? ⟨w.heap.size + 1, 0, none⟩ = some u0 ∧ W.cell? ⟨w.heap.size + 1, 1, none⟩ = some u1) ∧
   (W.frozen? ⟨w.heap.size + 1, 0, none⟩ = false ∧ W.frozen? ⟨w.heap.size + 1, 1, none⟩ = false) ∧ (W.cell? ⟨w.heap.size + 2, 0, none⟩ = some x0 ∧ W.cell? ⟨w.heap.size + 2, 1, none⟩ = some x1) ∧ W.frozen? ⟨w.heap.size + 2, 0, none⟩ = false ∧ W.frozen? ⟨w.heap.size + 2, 1, none⟩ = false := by
 obtain ⟨V, hV⟩ : ∃ V, V = (w.alloc (.cells #[v0, v1] t)).alloc (.cells #[u0, u1] t) := ⟨_, rfl⟩
 obtain ⟨b, s, ⟨c0, c1⟩, ⟨c2, c3⟩, g0, g1⟩ := two_boxes hV
 rw [← hV] at hW
 subst hW
 refine ⟨b.alloc (by omega) _, by simp; omega, ⟨Lib.cell?_alloc_some _ c0, Lib.cell?_alloc_some _ c1⟩, ⟨Lib.cell?_alloc_some _ c2, Lib.cell?_alloc_some _ c3⟩, ⟨frozen_alloc (by omega) g0 _, frozen_alloc (by omega) g1 _⟩, ⟨?_, ?_⟩, ?_, ?_⟩
 ·
  exact World.cell?_alloc_at _ _ _ _ (by omega)
 ·
  exact World.cell?_alloc_at _ _ _ _ (by omega)
 ·
  exact frozen_new _ _ _ _ _ (by omega)
 ·
  exact frozen_new _ _ _ _ _ (by omega)
theorem cell_set1 {w : World} {h : Nat} {v u : Value} (hc : w.cell? ⟨h, 1, none⟩ = some v) : (w.setCell ⟨h, 0, none⟩ u).cell? ⟨h, 1, none⟩ = some v := by
 rw [World.cell?_setCell_other _ _ _ _ (fun hh => by cases hh)]; exact hc
theorem own_set {w : World} {B : Nat} {e : TypeId} {g n cap h i m : Nat} {xs : List Value} {u : Value} (hr : w.ownsRow B e m (.slice (some ⟨g, 0, none⟩) n cap) n xs) (hh : h < B) : (w.setCell ⟨h, i, none⟩ u).ownsRow B e m (.slice (some ⟨g, 0, none⟩) n cap) n xs :=
 ownsRow_setCell_below hr (a := ⟨h, i, none⟩) hh u
def maskOf (all : Bool) (ms : List Int) (i : Nat) : Int := if all = true then 255 else maskAt ms i
def strsL (bs : List ByteArray) (j : Nat) : List Value := (bs.take j).map Value.string
def refV (g n cap h h2 k : Nat) (z s : ByteArray) (q : Int) (y : ByteArray) : Nat → Value
 | 0 => .pointer (some ⟨h, 0, none⟩)
 | 1 => .slice (some ⟨g, 0, none⟩) n cap
 | 2 => .pointer (some ⟨h2, 0, none⟩)
 | 3 => .int .i64 k
 | 4 => .pointer (some ⟨h, 0, none⟩)
 | 5 => .slice (some ⟨g, 0, none⟩) n cap
 | 6 => .pointer (some ⟨h2, 0, none⟩)
 | 7 => .int .i64 k
 | 8 => .pointer (some ⟨g, k, none⟩)
 | 9 => .string z
 | 10 => .pointer (some ⟨h2, 1, none⟩)
 | 11 => .string s
 | 12 => .int .i64 q
 | 13 => .string y
 | 14 => .pointer (some ⟨g, k, none⟩)
 | _ => undef
set_option maxHeartbeats 16000000 in
theorem refCrash_any (a a' am : Option Addr) (c c' cm' : Nat) (bs : List ByteArray) (ps : List (Int × ByteArray)) (all : Bool) (ms : List Int) (w : World) (hS : IsS w a c bs) (hP : IsP w a' c' ps) (hI : IsI w am cm' ms) (hr : rightD bs ps = true) :
  Calls Tryz.prog 48 #[.agg #[.slice a bs.length c, .slice a' ps.length c'], .bool all, .slice am ms.length cm'] w fun e w' => ∃ b d, e = .returned (.agg #[.slice b (crashL (maskOf all ms) bs ps).length d, .slice none 0 0]) ∧ IsS w' b d (crashL (maskOf all ms) bs ps) ∧ Below w.heap.size w w' := by
 obtain ⟨M, hM⟩ : ∃ M, M = maskOf all ms := ⟨_, rfl⟩
 have HM : Hid (M = maskOf all ms) := hM
 rw [← hM]
 clear hM
 obtain ⟨i0, hi, hz0, hz1, hz2⟩ := info_parts Tryz.info9
 obtain ⟨W, hW⟩ : ∃ W, W = ((w.alloc (.cells #[.slice a bs.length c, .slice a' ps.length c'] 25)).alloc (.cells #[.slice none 0 0, .slice none 0 0] 25)).alloc (.cells #[.slice none 0 0, .slice none 0 0] 25) := ⟨_, rfl⟩
 obtain ⟨hB0, hWs', ⟨d0, d1⟩, ⟨e0, e1⟩, ⟨f0, f1⟩, ⟨x0, x1⟩, y0, y1⟩ := three_boxes hW
 obtain ⟨B, hBW, hBw⟩ : ∃ B, B = W.heap.size ∧ w.heap.size + 2 < B := ⟨_, rfl, by omega⟩
 have HBW : Hid (B = W.heap.size) := hBW
 have hWs : Hid (W.heap.size = w.heap.size + 3) := hWs'
 have hm6 : ms.length ≤ 9223372036854775807 := Nat.le_trans hI.1 hI.2.1
 obtain ⟨⟨h1, h2, h3⟩, hbok, hpw⟩ := (rightD_iff bs ps).1 hr
 have HP : Hid (IsP w a' c' ps) := hP
 have HS : Hid (IsS w a c bs) := hS
 have HI : Hid (IsI w am cm' ms) := hI
 have HW : Hid (∀ p ∈ ps, okW bs.length p = true) := hpw
 have HZ : Hid (∀ j, ∀ x ∈ crashN M bs ps j, x.size ≤ maxLen) := fun j => flush_sizes hr _ _
 have xa : Hid (crashL M bs ps = crashN M bs ps ps.length) := crash_all _
 clear hP hS hpw hI hbok hr hBW hWs'
 go_enter Tryz.func48, Tryz.ntmps48
 go_wp2
 rw [← hW]
 clear hW
 go_loopw [17] (fun v wr => ∃ (j : Nat) (u : Value), j ≤ bs.length ∧ v = .int .i64 j ∧ wr.ownsRow B 9 1 u j (strsL bs j) ∧ wr.cell? ⟨w.heap.size + 2, 0, none⟩ = some u ∧ wr.cell? ⟨w.heap.size + 2, 1, none⟩ = some (.slice none 0 0) ∧
   wr.frozen? ⟨w.heap.size + 2, 0, none⟩ = false ∧ wr.frozen? ⟨w.heap.size + 2, 1, none⟩ = false ∧ KeptD (w.heap.size + 2) W wr ∧ Below w.heap.size w wr) (fun v _ => bs.length - (intOf v).toNat)
 case atStart => exact ⟨0, .slice none 0 0, by omega, rfl, ⟨rfl, .inl ⟨rfl, rfl⟩⟩, x0, x1, y0, y1, KeptD.refl _ _, hB0⟩
 case round =>
  clear x0 x1 y0 y1
  obtain ⟨j, u, hj, rfl, hown, q0, q1, g0, g1, hkp, hbel⟩ := hrel
  have hWr : B ≤ wr.heap.size := by rw [HBW.out]; exact hkp.1
  by_cases hlt : j < bs.length
  ·
   obtain ⟨x, hx⟩ : ∃ x, bs[j]? = some x := ⟨_, List.getElem?_eq_getElem hlt⟩
   obtain ⟨b, o, rfl, hlb, hc, hxs⟩ := (HS.out.below hB0).2.2 j x hx
   have hbw : b < w.heap.size := by
    obtain ⟨b', o', he, hl, _⟩ := HS.out.2.2 j x hx
    cases he
    exact hl
   replace hc := hkp.cell (by show b ≠ w.heap.size + 2; omega) hc
   have hlt' : (j : Int) < bs.length := by omega
   have hnx : Hid (strsL bs (j + 1) = strsL bs j ++ [.string x]) := by
    show _ = _
    unfold strsL
    rw [List.take_add_one, hx, List.map_append]; rfl
   have hrow : ∀ k, u.ownBlock = some k → w.heap.size + 2 < k := fun k hk => by have := (hown.lt k hk).1; omega
   have hrow2 : ∀ k, u.ownBlock = some k → B ≤ k := fun k hk => (hown.lt k hk).1
   have q0a := cell_alloc q0
   have hwl : w.heap.size + 2 < wr.heap.size := by omega
   go_wp2_with (at_builtin; refine wpList_append_own _ rfl _ _ 22 rfl B 9 i0 (.string ⟨#[]⟩) 1 16 Tryz.underlying22 hi hz0 hz1 hz2 rfl (by decide) _ _ _ rfl (hown.alloc _) ⟨wr.heap.size, 0, none⟩ 1 1 [.string x] rfl rfl ?c1 ?c2 ?c3 ?c4 ?c5 ?_)
   case c1 =>
    intro j u hj
    match j, hj with
    | 0, hj => simp at hj; subst hj; simp [Addr.add]
   case c2 => intro u hu; simp at hu; subst hu; rfl
   case c3 => unfold maxLen; omega
   case c4 => omega
   case c5 => simp; omega
   ·
    intro v' w1 hown' hgrow _
    have R : w1.ownsRow B 9 1 v' (j + 1) (strsL bs (j + 1)) := by rw [hnx.out]; exact hown'
    obtain ⟨g, cap, rfl, -, -⟩ := R.form (by omega)
    have HR : Hid (w1.ownsRow B 9 1 (.slice (some ⟨g, 0, none⟩) (j + 1) cap) (j + 1) (strsL bs (j + 1))) := R
    have hgB : B ≤ g := (R.lt g rfl).1
    have r0 := grown_cell hgrow hrow (cell_alloc q0 _)
    have r1 := grown_cell hgrow hrow (cell_alloc q1 _)
    have t0 := grown_frozen hgrow (by simp; omega) hrow (frozen_alloc hwl g0 _)
    have t1 := grown_frozen hgrow (by simp; omega) hrow (frozen_alloc hwl g1 _)
    have hk' : KeptD (w.heap.size + 2) W w1 := (hkp.alloc _).grown hgrow (fun k hk => by rw [← HBW.out]; exact hrow2 k hk)
    have hb' : Below w.heap.size w w1 := (hbel.alloc (by omega) _).grown hgrow (by simp; omega) (fun k hk => by have := hrow2 k hk; omega)
    clear hown' hgrow hown R q0 q1 g0 g1 q0a hkp hbel hrow hrow2
    go_wp2
    go_roundw
    case rel =>
     refine ⟨j + 1, _, by omega, by go_num, ?_, World.cell?_setCell_same _ _ _ r0, cell_set1 r1, by rw [World.frozen?_setCell]; exact t0, by rw [World.frozen?_setCell]; exact t1, hk'.set _ _, hb'.setCell (p := ⟨w.heap.size + 2, 0, none⟩) (by show w.heap.size ≤ w.heap.size + 2; omega) _⟩
     exact own_set HR.out (by omega)
    case measure => simp [intOf]; omega
  ·
   obtain rfl : j = bs.length := by omega
   obtain ⟨_, hrr⟩ := hown
   rcases hrr with ⟨_, hn⟩ | ⟨g, cap, cur, rfl, hg, hcur, hnc, hcm, hsz, htk⟩
   ·
    omega
   have HROW : Hid (RowS wr g cap bs) := ⟨cur, hcur, by unfold strsL at htk; rw [List.take_length] at htk; simpa using htk, by omega, hcm, by omega⟩
   replace e0 := hkp.cell (by show w.heap.size + 1 ≠ w.heap.size + 2; omega) e0
   replace e1 := hkp.cell (by show w.heap.size + 1 ≠ w.heap.size + 2; omega) e1
   replace f0 := hkp.frozen (by show w.heap.size + 1 < W.heap.size; rw [hWs.out]; omega) (by show w.heap.size + 1 ≠ w.heap.size + 2; omega) f0
   replace f1 := hkp.frozen (by show w.heap.size + 1 < W.heap.size; rw [hWs.out]; omega) (by show w.heap.size + 1 ≠ w.heap.size + 2; omega) f1
   replace d1 := hkp.cell (by show w.heap.size ≠ w.heap.size + 2; omega) d1
   obtain ⟨W2, hW2⟩ : ∃ W2, W2 = wr := ⟨_, rfl⟩
   rw [← hW2] at HROW e0 e1 f0 f1 q0 q1 g0 g1 hbel hWr
   have hd1 := d1
   have hgs : w.heap.size + 2 < g := by omega
   clear hcur htk hkp HS d0
   go_wp2
   rw [← hW2]
   clear hW2 hd1 d1
   go_loopw [31] (fun v wr => ∃ j : Nat, j ≤ ps.length ∧ v = .int .i64 j ∧ RowS wr g cap (crashN M bs ps j) ∧ KeptD g W2 wr ∧ Below w.heap.size w wr) (fun v _ => ps.length - (intOf v).toNat)
   case atStart => exact ⟨0, by omega, rfl, HROW.out, KeptD.refl _ _, hbel⟩
   case round =>
    have hB2 := hbel
    clear hbel
    obtain ⟨j, hj, rfl, hrow, hkp, hbel⟩ := hrel
    have HROW2 : Hid (RowS wr g cap (crashN M bs ps j)) := hrow
    clear hrow
    by_cases hlt : j < ps.length
    ·
     obtain ⟨p, hx⟩ : ∃ x, ps[j]? = some x := ⟨_, List.getElem?_eq_getElem hlt⟩
     obtain ⟨b, o, rfl, hlb, hc1, hc2, hxs, hlo, hhi⟩ := (hkp.isP HP.out hB2 (by omega)).2.2 j p hx
     have hlt' : (j : Int) < ps.length := by omega
     obtain ⟨⟨hp0, hp1⟩, -⟩ := (okW_iff _ _).1 (HW.out p (List.mem_of_getElem? hx))
     obtain ⟨k, hk⟩ : ∃ k : Nat, p.1 = k := ⟨p.1.toNat, by omega⟩
     have hkl : k < (crashN M bs ps j).length := by rw [crashN_length]; omega
     obtain ⟨hrc, hrf⟩ := HROW2.out.cell (blk_get hkl)
     have hzs : (blk (crashN M bs ps j) k).size ≤ maxLen := HZ.out j _ (blk_mem hkl)
     obtain ⟨q, hqm⟩ : ∃ q, M j = q := ⟨_, rfl⟩
     have hqm2 : maskOf all ms j = q := by rw [← HM.out]; exact hqm
     obtain ⟨z, hz⟩ : ∃ z, z = blk (crashN M bs ps j) k := ⟨_, rfl⟩
     obtain ⟨y, hy⟩ : ∃ y, y = mixS z p.2 q := ⟨_, rfl⟩
     have hnx : Hid (∀ V, RowS V g cap (crashN M bs ps j) → RowS (V.setCell ⟨g, k, none⟩ (.string y)) g cap (crashN M bs ps (j + 1))) := by
      intro V hV
      rw [crashN_succ _ _ hx, hk, hqm]
      show RowS _ _ _ ((crashN M bs ps j).set k (mixS (blk (crashN M bs ps j) k) p.2 q))
      rw [← hz, ← hy]
      exact hV.set hkl y
     have cm : ∀ V, Calls Tryz.prog 90 #[.string z, .string p.2, .int .i64 q] V fun e w' => e = .returned (.string y) ∧ Below V.heap.size V w' := by
      intro V
      rw [hy]
      exact refMix_any z p.2 q V (by rw [hz]; exact hzs) hxs
     have hk1 : (k : Int) < bs.length := by omega
     rw [hk] at hc1
     rw [← hz] at hrc
     obtain ⟨V, hV⟩ : ∃ V, V = wr.alloc (.cells #[.int .i64 k, .string p.2] 66) := ⟨_, rfl⟩
     have hVB : Below wr.heap.size wr V := by rw [hV]; exact (Below.refl _ _).alloc (Nat.le_refl _) _
     have v0 : V.cell? ⟨wr.heap.size, 0, none⟩ = some (.int .i64 k) := by rw [hV]; exact World.cell?_alloc_at _ _ _ _ rfl
     have v1 : V.cell? ⟨wr.heap.size, 1, none⟩ = some (.string p.2) := by rw [hV]; exact World.cell?_alloc_at _ _ _ _ rfl
     have v2 := cell_below hVB hrc
     have v3 := cell_below hVB (hkp.cell (by show w.heap.size + 2 ≠ g; omega) q0)
     have v4 := frozen_below hVB HROW2.out.lt hrf
     have hVw : Below w.heap.size w V := Below.tr hbel hVB
     have hVk : KeptD g W2 V := hkp.below hVB
     have HROW3 : Hid (RowS V g cap (crashN M bs ps j)) := HROW2.out.below hVB
     by_cases hlm : j < ms.length
     ·
      obtain ⟨q', hq⟩ : ∃ x, ms[j]? = some x := ⟨_, List.getElem?_eq_getElem hlm⟩
      obtain ⟨b2, o2, rfl, hlb2, hc3⟩ := (hkp.isI HI.out hB2 (by omega)).2.2 j q' hq
      have hc3a := cell_alloc hc3
      have hlm' : (j : Int) < ms.length := by omega
      cases all with
      | true =>
       obtain rfl : q = 255 := hqm2.symm
       clear hx hq HROW2 HROW hp0 hp1 hzs hz hy hqm hqm2 HM hrc hrf hkp hbel
       go_wp2
       rw [← hV]
       clear hV hVB
       refine region_vals (by kernel_rfl) 15 (refV g bs.length cap (w.heap.size + 2) wr.heap.size k z p.2 255 y)
        (fun X => (X.cell? ⟨w.heap.size + 2, 0, none⟩ = some (.slice (some ⟨g, 0, none⟩) bs.length cap) ∧ X.cell? ⟨wr.heap.size, 0, none⟩ = some (.int .i64 k) ∧ X.cell? ⟨wr.heap.size, 1, none⟩ = some (.string p.2) ∧ X.cell? ⟨g, k, none⟩ = some (.string z) ∧ X.frozen? ⟨g, k, none⟩ = false) ∧ Below w.heap.size w X ∧ RowS X g cap (crashN M bs ps j) ∧ KeptD g W2 X)
        (fun X => Below w.heap.size w X ∧ RowS X g cap (crashN M bs ps (j + 1)) ∧ KeptD g W2 X) (by kernel_rfl) (by kernel_rfl) ⟨⟨v3, v0, v1, v2, v4⟩, hVw.drew, RowS.below HROW3.out (Below.refl _ _).drew, KeptD.below hVk (Below.refl _ _).drew⟩ ?step1 16 rfl ?done1
       case step1 =>
        intro i o ho a' X hS hdf hsz hdep hsame
        obtain ⟨⟨s0, s1, s2, s3, s4⟩, s5, s6, s7⟩ := id hS
        match i, ho with
        | 0, ho =>
         cases ho
         have h7 := hsame 7 rfl
         exact val_op rfl (wanted_free rfl) (by clear hdep hsame hsz hdf; simp only [refV]; go_simp) rfl hS
        | 1, ho =>
         cases ho
         have h45 := hdep 0 _ 45 rfl rfl rfl
         simp only [refV] at h45
         exact val_op rfl (wanted_free rfl) (by clear hdep hsame hsz hdf; simp only [refV]; go_simp) rfl hS
        | 2, ho =>
         cases ho
         have h11 := hsame 11 rfl
         exact val_op rfl (wanted_free rfl) (by clear hdep hsame hsz hdf; simp only [refV]; go_simp) rfl hS
        | 3, ho =>
         cases ho
         have h47 := hdep 2 _ 47 rfl rfl rfl
         simp only [refV] at h47
         exact val_op rfl (wanted_free rfl) (by clear hdep hsame hsz hdf; simp only [refV]; go_simp) rfl hS
        | 4, ho =>
         cases ho
         have h7 := hsame 7 rfl
         exact val_op rfl (wanted_free rfl) (by clear hdep hsame hsz hdf; simp only [refV]; go_simp) rfl hS
        | 5, ho =>
         cases ho
         have h49 := hdep 4 _ 49 rfl rfl rfl
         simp only [refV] at h49
         exact val_op rfl (wanted_free rfl) (by clear hdep hsame hsz hdf; simp only [refV]; go_simp) rfl hS
        | 6, ho =>
         cases ho
         have h11 := hsame 11 rfl
         exact val_op rfl (wanted_free rfl) (by clear hdep hsame hsz hdf; simp only [refV]; go_simp) rfl hS
        | 7, ho =>
         cases ho
         have h51 := hdep 6 _ 51 rfl rfl rfl
         simp only [refV] at h51
         exact val_op rfl (wanted_free rfl) (by clear hdep hsame hsz hdf; simp only [refV]; go_simp) rfl hS
        | 8, ho =>
         cases ho
         have h50 := hdep 5 _ 50 rfl rfl rfl
         have h52 := hdep 7 _ 52 rfl rfl rfl
         simp only [refV] at h50 h52
         exact val_op rfl (wanted_free rfl) (by clear hdep hsame hsz hdf; simp only [refV]; go_simp) rfl hS
        | 9, ho =>
         cases ho
         have h53 := hdep 8 _ 53 rfl rfl rfl
         simp only [refV] at h53
         exact val_op rfl (wanted_free rfl) (by clear hdep hsame hsz hdf; simp only [refV]; go_simp) rfl hS
        | 10, ho =>
         cases ho
         have h11 := hsame 11 rfl
         exact val_op rfl (wanted_free rfl) (by clear hdep hsame hsz hdf; simp only [refV]; go_simp) rfl hS
        | 11, ho =>
         cases ho
         have h55 := hdep 10 _ 55 rfl rfl rfl
         simp only [refV] at h55
         exact val_op rfl (wanted_free rfl) (by clear hdep hsame hsz hdf; simp only [refV]; go_simp) rfl hS
        | 12, ho =>
         cases ho
         have h12 := hsame 12 rfl
         exact val_op rfl (wanted_free rfl) (by clear hdep hsame hsz hdf; simp only [refV]; go_simp) rfl hS
        | 13, ho =>
         cases ho
         have h54 := hdep 9 _ 54 rfl rfl rfl
         have h56 := hdep 11 _ 56 rfl rfl rfl
         have h57 := hdep 12 _ 57 rfl rfl rfl
         simp only [refV] at h54 h56 h57
         exact val_call rfl (wanted_free rfl) (by clear hdep hsame hsz hdf; go_simp) ((cm _).mono fun e w'' ⟨he, hb⟩ => ⟨he, ⟨cell_below hb s0, cell_below hb s1, cell_below hb s2, cell_below hb s3, frozen_below hb s6.lt s4⟩, Below.tr s5 hb, s6.below hb, s7.below hb⟩)
        | 14, ho =>
         cases ho
         have h46 := hdep 1 _ 46 rfl rfl rfl
         have h48 := hdep 3 _ 48 rfl rfl rfl
         simp only [refV] at h46 h48
         exact val_op rfl (wanted_free rfl) (by clear hdep hsame hsz hdf; simp only [refV]; go_simp) rfl hS
        | 15, ho =>
         cases ho
         have h59 := hdep 14 _ 59 rfl rfl rfl
         have h58 := hdep 13 _ 58 rfl rfl rfl
         simp only [refV] at h59 h58
         exact val_skip (w' := X.setCell ⟨g, k, none⟩ (.string y)) rfl (wanted_free rfl) rfl (by clear hdep hsame hsz hdf; go_simp) ⟨s5.setCell (p := ⟨g, k, none⟩) (by show _ ≤ g; omega) _, hnx.out _ s6, s7.set _ _⟩
        | n + 16, ho => simp at ho
       case done1 =>
        rintro X ⟨s5, s6, s7⟩
        simp [filledN, refV]
        go_wp2
        go_roundw
        case rel => exact ⟨j + 1, by omega, by go_num, s6, s7, s5⟩
        case measure => simp [intOf]; omega
      | false =>
       obtain rfl : q = q' := by rw [← hqm2]; show maskAt ms j = q'; unfold maskAt; rw [hq]; rfl
       clear hx hq HROW2 HROW hp0 hp1 hzs hz hy hqm hqm2 HM hrc hrf hkp hbel
       go_wp2
       rw [← hV]
       clear hV hVB
       refine region_vals (by kernel_rfl) 15 (refV g bs.length cap (w.heap.size + 2) wr.heap.size k z p.2 q y)
        (fun X => (X.cell? ⟨w.heap.size + 2, 0, none⟩ = some (.slice (some ⟨g, 0, none⟩) bs.length cap) ∧ X.cell? ⟨wr.heap.size, 0, none⟩ = some (.int .i64 k) ∧ X.cell? ⟨wr.heap.size, 1, none⟩ = some (.string p.2) ∧ X.cell? ⟨g, k, none⟩ = some (.string z) ∧ X.frozen? ⟨g, k, none⟩ = false) ∧ Below w.heap.size w X ∧ RowS X g cap (crashN M bs ps j) ∧ KeptD g W2 X)
        (fun X => Below w.heap.size w X ∧ RowS X g cap (crashN M bs ps (j + 1)) ∧ KeptD g W2 X) (by kernel_rfl) (by kernel_rfl) ⟨⟨v3, v0, v1, v2, v4⟩, hVw.drew, RowS.below HROW3.out (Below.refl _ _).drew, KeptD.below hVk (Below.refl _ _).drew⟩ ?step2 16 rfl ?done2
       case step2 =>
        intro i o ho a' X hS hdf hsz hdep hsame
        obtain ⟨⟨s0, s1, s2, s3, s4⟩, s5, s6, s7⟩ := id hS
        match i, ho with
        | 0, ho =>
         cases ho
         have h7 := hsame 7 rfl
         exact val_op rfl (wanted_free rfl) (by clear hdep hsame hsz hdf; simp only [refV]; go_simp) rfl hS
        | 1, ho =>
         cases ho
         have h45 := hdep 0 _ 45 rfl rfl rfl
         simp only [refV] at h45
         exact val_op rfl (wanted_free rfl) (by clear hdep hsame hsz hdf; simp only [refV]; go_simp) rfl hS
        | 2, ho =>
         cases ho
         have h11 := hsame 11 rfl
         exact val_op rfl (wanted_free rfl) (by clear hdep hsame hsz hdf; simp only [refV]; go_simp) rfl hS
        | 3, ho =>
         cases ho
         have h47 := hdep 2 _ 47 rfl rfl rfl
         simp only [refV] at h47
         exact val_op rfl (wanted_free rfl) (by clear hdep hsame hsz hdf; simp only [refV]; go_simp) rfl hS
        | 4, ho =>
         cases ho
         have h7 := hsame 7 rfl
         exact val_op rfl (wanted_free rfl) (by clear hdep hsame hsz hdf; simp only [refV]; go_simp) rfl hS
        | 5, ho =>
         cases ho
         have h49 := hdep 4 _ 49 rfl rfl rfl
         simp only [refV] at h49
         exact val_op rfl (wanted_free rfl) (by clear hdep hsame hsz hdf; simp only [refV]; go_simp) rfl hS
        | 6, ho =>
         cases ho
         have h11 := hsame 11 rfl
         exact val_op rfl (wanted_free rfl) (by clear hdep hsame hsz hdf; simp only [refV]; go_simp) rfl hS
        | 7, ho =>
         cases ho
         have h51 := hdep 6 _ 51 rfl rfl rfl
         simp only [refV] at h51
         exact val_op rfl (wanted_free rfl) (by clear hdep hsame hsz hdf; simp only [refV]; go_simp) rfl hS
        | 8, ho =>
         cases ho
         have h50 := hdep 5 _ 50 rfl rfl rfl
         have h52 := hdep 7 _ 52 rfl rfl rfl
         simp only [refV] at h50 h52
         exact val_op rfl (wanted_free rfl) (by clear hdep hsame hsz hdf; simp only [refV]; go_simp) rfl hS
        | 9, ho =>
         cases ho
         have h53 := hdep 8 _ 53 rfl rfl rfl
         simp only [refV] at h53
         exact val_op rfl (wanted_free rfl) (by clear hdep hsame hsz hdf; simp only [refV]; go_simp) rfl hS
        | 10, ho =>
         cases ho
         have h11 := hsame 11 rfl
         exact val_op rfl (wanted_free rfl) (by clear hdep hsame hsz hdf; simp only [refV]; go_simp) rfl hS
        | 11, ho =>
         cases ho
         have h55 := hdep 10 _ 55 rfl rfl rfl
         simp only [refV] at h55
         exact val_op rfl (wanted_free rfl) (by clear hdep hsame hsz hdf; simp only [refV]; go_simp) rfl hS
        | 12, ho =>
         cases ho
         have h12 := hsame 12 rfl
         exact val_op rfl (wanted_free rfl) (by clear hdep hsame hsz hdf; simp only [refV]; go_simp) rfl hS
        | 13, ho =>
         cases ho
         have h54 := hdep 9 _ 54 rfl rfl rfl
         have h56 := hdep 11 _ 56 rfl rfl rfl
         have h57 := hdep 12 _ 57 rfl rfl rfl
         simp only [refV] at h54 h56 h57
         exact val_call rfl (wanted_free rfl) (by clear hdep hsame hsz hdf; go_simp) ((cm _).mono fun e w'' ⟨he, hb⟩ => ⟨he, ⟨cell_below hb s0, cell_below hb s1, cell_below hb s2, cell_below hb s3, frozen_below hb s6.lt s4⟩, Below.tr s5 hb, s6.below hb, s7.below hb⟩)
        | 14, ho =>
         cases ho
         have h46 := hdep 1 _ 46 rfl rfl rfl
         have h48 := hdep 3 _ 48 rfl rfl rfl
         simp only [refV] at h46 h48
         exact val_op rfl (wanted_free rfl) (by clear hdep hsame hsz hdf; simp only [refV]; go_simp) rfl hS
        | 15, ho =>
         cases ho
         have h59 := hdep 14 _ 59 rfl rfl rfl
         have h58 := hdep 13 _ 58 rfl rfl rfl
         simp only [refV] at h59 h58
         exact val_skip (w' := X.setCell ⟨g, k, none⟩ (.string y)) rfl (wanted_free rfl) rfl (by clear hdep hsame hsz hdf; go_simp) ⟨s5.setCell (p := ⟨g, k, none⟩) (by show _ ≤ g; omega) _, hnx.out _ s6, s7.set _ _⟩
        | n + 16, ho => simp at ho
       case done2 =>
        rintro X ⟨s5, s6, s7⟩
        simp [filledN, refV]
        go_wp2
        go_roundw
        case rel => exact ⟨j + 1, by omega, by go_num, s6, s7, s5⟩
        case measure => simp [intOf]; omega
     ·
      have hlm' : ¬ (j : Int) < ms.length := by omega
      cases all with
      | true =>
       obtain rfl : q = 255 := hqm2.symm
       clear hx HROW2 HROW hp0 hp1 hzs hz hy hqm hqm2 HM hrc hrf hkp hbel
       go_wp2
       rw [← hV]
       clear hV hVB
       refine region_vals (by kernel_rfl) 15 (refV g bs.length cap (w.heap.size + 2) wr.heap.size k z p.2 255 y)
        (fun X => (X.cell? ⟨w.heap.size + 2, 0, none⟩ = some (.slice (some ⟨g, 0, none⟩) bs.length cap) ∧ X.cell? ⟨wr.heap.size, 0, none⟩ = some (.int .i64 k) ∧ X.cell? ⟨wr.heap.size, 1, none⟩ = some (.string p.2) ∧ X.cell? ⟨g, k, none⟩ = some (.string z) ∧ X.frozen? ⟨g, k, none⟩ = false) ∧ Below w.heap.size w X ∧ RowS X g cap (crashN M bs ps j) ∧ KeptD g W2 X)
        (fun X => Below w.heap.size w X ∧ RowS X g cap (crashN M bs ps (j + 1)) ∧ KeptD g W2 X) (by kernel_rfl) (by kernel_rfl) ⟨⟨v3, v0, v1, v2, v4⟩, hVw.drew, RowS.below HROW3.out (Below.refl _ _).drew, KeptD.below hVk (Below.refl _ _).drew⟩ ?step3 16 rfl ?done3
       case step3 =>
        intro i o ho a' X hS hdf hsz hdep hsame
        obtain ⟨⟨s0, s1, s2, s3, s4⟩, s5, s6, s7⟩ := id hS
        match i, ho with
        | 0, ho =>
         cases ho
         have h7 := hsame 7 rfl
         exact val_op rfl (wanted_free rfl) (by clear hdep hsame hsz hdf; simp only [refV]; go_simp) rfl hS
        | 1, ho =>
         cases ho
         have h45 := hdep 0 _ 45 rfl rfl rfl
         simp only [refV] at h45
         exact val_op rfl (wanted_free rfl) (by clear hdep hsame hsz hdf; simp only [refV]; go_simp) rfl hS
        | 2, ho =>
         cases ho
         have h11 := hsame 11 rfl
         exact val_op rfl (wanted_free rfl) (by clear hdep hsame hsz hdf; simp only [refV]; go_simp) rfl hS
        | 3, ho =>
         cases ho
         have h47 := hdep 2 _ 47 rfl rfl rfl
         simp only [refV] at h47
         exact val_op rfl (wanted_free rfl) (by clear hdep hsame hsz hdf; simp only [refV]; go_simp) rfl hS
        | 4, ho =>
         cases ho
         have h7 := hsame 7 rfl
         exact val_op rfl (wanted_free rfl) (by clear hdep hsame hsz hdf; simp only [refV]; go_simp) rfl hS
        | 5, ho =>
         cases ho
         have h49 := hdep 4 _ 49 rfl rfl rfl
         simp only [refV] at h49
         exact val_op rfl (wanted_free rfl) (by clear hdep hsame hsz hdf; simp only [refV]; go_simp) rfl hS
        | 6, ho =>
         cases ho
         have h11 := hsame 11 rfl
         exact val_op rfl (wanted_free rfl) (by clear hdep hsame hsz hdf; simp only [refV]; go_simp) rfl hS
        | 7, ho =>
         cases ho
         have h51 := hdep 6 _ 51 rfl rfl rfl
         simp only [refV] at h51
         exact val_op rfl (wanted_free rfl) (by clear hdep hsame hsz hdf; simp only [refV]; go_simp) rfl hS
        | 8, ho =>
         cases ho
         have h50 := hdep 5 _ 50 rfl rfl rfl
         have h52 := hdep 7 _ 52 rfl rfl rfl
         simp only [refV] at h50 h52
         exact val_op rfl (wanted_free rfl) (by clear hdep hsame hsz hdf; simp only [refV]; go_simp) rfl hS
        | 9, ho =>
         cases ho
         have h53 := hdep 8 _ 53 rfl rfl rfl
         simp only [refV] at h53
         exact val_op rfl (wanted_free rfl) (by clear hdep hsame hsz hdf; simp only [refV]; go_simp) rfl hS
        | 10, ho =>
         cases ho
         have h11 := hsame 11 rfl
         exact val_op rfl (wanted_free rfl) (by clear hdep hsame hsz hdf; simp only [refV]; go_simp) rfl hS
        | 11, ho =>
         cases ho
         have h55 := hdep 10 _ 55 rfl rfl rfl
         simp only [refV] at h55
         exact val_op rfl (wanted_free rfl) (by clear hdep hsame hsz hdf; simp only [refV]; go_simp) rfl hS
        | 12, ho =>
         cases ho
         have h12 := hsame 12 rfl
         exact val_op rfl (wanted_free rfl) (by clear hdep hsame hsz hdf; simp only [refV]; go_simp) rfl hS
        | 13, ho =>
         cases ho
         have h54 := hdep 9 _ 54 rfl rfl rfl
         have h56 := hdep 11 _ 56 rfl rfl rfl
         have h57 := hdep 12 _ 57 rfl rfl rfl
         simp only [refV] at h54 h56 h57
         exact val_call rfl (wanted_free rfl) (by clear hdep hsame hsz hdf; go_simp) ((cm _).mono fun e w'' ⟨he, hb⟩ => ⟨he, ⟨cell_below hb s0, cell_below hb s1, cell_below hb s2, cell_below hb s3, frozen_below hb s6.lt s4⟩, Below.tr s5 hb, s6.below hb, s7.below hb⟩)
        | 14, ho =>
         cases ho
         have h46 := hdep 1 _ 46 rfl rfl rfl
         have h48 := hdep 3 _ 48 rfl rfl rfl
         simp only [refV] at h46 h48
         exact val_op rfl (wanted_free rfl) (by clear hdep hsame hsz hdf; simp only [refV]; go_simp) rfl hS
        | 15, ho =>
         cases ho
         have h59 := hdep 14 _ 59 rfl rfl rfl
         have h58 := hdep 13 _ 58 rfl rfl rfl
         simp only [refV] at h59 h58
         exact val_skip (w' := X.setCell ⟨g, k, none⟩ (.string y)) rfl (wanted_free rfl) rfl (by clear hdep hsame hsz hdf; go_simp) ⟨s5.setCell (p := ⟨g, k, none⟩) (by show _ ≤ g; omega) _, hnx.out _ s6, s7.set _ _⟩
        | n + 16, ho => simp at ho
       case done3 =>
        rintro X ⟨s5, s6, s7⟩
        simp [filledN, refV]
        go_wp2
        go_roundw
        case rel => exact ⟨j + 1, by omega, by go_num, s6, s7, s5⟩
        case measure => simp [intOf]; omega
      | false =>
       obtain rfl : q = 0 := by rw [← hqm2]; show maskAt ms j = 0; unfold maskAt; rw [List.getElem?_eq_none (by omega)]; rfl
       clear hx HROW2 HROW hp0 hp1 hzs hz hy hqm hqm2 HM hrc hrf hkp hbel
       go_wp2
       rw [← hV]
       clear hV hVB
       refine region_vals (by kernel_rfl) 15 (refV g bs.length cap (w.heap.size + 2) wr.heap.size k z p.2 0 y)
        (fun X => (X.cell? ⟨w.heap.size + 2, 0, none⟩ = some (.slice (some ⟨g, 0, none⟩) bs.length cap) ∧ X.cell? ⟨wr.heap.size, 0, none⟩ = some (.int .i64 k) ∧ X.cell? ⟨wr.heap.size, 1, none⟩ = some (.string p.2) ∧ X.cell? ⟨g, k, none⟩ = some (.string z) ∧ X.frozen? ⟨g, k, none⟩ = false) ∧ Below w.heap.size w X ∧ RowS X g cap (crashN M bs ps j) ∧ KeptD g W2 X)
        (fun X => Below w.heap.size w X ∧ RowS X g cap (crashN M bs ps (j + 1)) ∧ KeptD g W2 X) (by kernel_rfl) (by kernel_rfl) ⟨⟨v3, v0, v1, v2, v4⟩, hVw.drew, RowS.below HROW3.out (Below.refl _ _).drew, KeptD.below hVk (Below.refl _ _).drew⟩ ?step4 16 rfl ?done4
       case step4 =>
        intro i o ho a' X hS hdf hsz hdep hsame
        obtain ⟨⟨s0, s1, s2, s3, s4⟩, s5, s6, s7⟩ := id hS
        match i, ho with
        | 0, ho =>
         cases ho
         have h7 := hsame 7 rfl
         exact val_op rfl (wanted_free rfl) (by clear hdep hsame hsz hdf; simp only [refV]; go_simp) rfl hS
        | 1, ho =>
         cases ho
         have h45 := hdep 0 _ 45 rfl rfl rfl
         simp only [refV] at h45
         exact val_op rfl (wanted_free rfl) (by clear hdep hsame hsz hdf; simp only [refV]; go_simp) rfl hS
        | 2, ho =>
         cases ho
         have h11 := hsame 11 rfl
         exact val_op rfl (wanted_free rfl) (by clear hdep hsame hsz hdf; simp only [refV]; go_simp) rfl hS
        | 3, ho =>
         cases ho
         have h47 := hdep 2 _ 47 rfl rfl rfl
         simp only [refV] at h47
         exact val_op rfl (wanted_free rfl) (by clear hdep hsame hsz hdf; simp only [refV]; go_simp) rfl hS
        | 4, ho =>
         cases ho
         have h7 := hsame 7 rfl
         exact val_op rfl (wanted_free rfl) (by clear hdep hsame hsz hdf; simp only [refV]; go_simp) rfl hS
        | 5, ho =>
         cases ho
         have h49 := hdep 4 _ 49 rfl rfl rfl
         simp only [refV] at h49
         exact val_op rfl (wanted_free rfl) (by clear hdep hsame hsz hdf; simp only [refV]; go_simp) rfl hS
        | 6, ho =>
         cases ho
         have h11 := hsame 11 rfl
         exact val_op rfl (wanted_free rfl) (by clear hdep hsame hsz hdf; simp only [refV]; go_simp) rfl hS
        | 7, ho =>
         cases ho
         have h51 := hdep 6 _ 51 rfl rfl rfl
         simp only [refV] at h51
         exact val_op rfl (wanted_free rfl) (by clear hdep hsame hsz hdf; simp only [refV]; go_simp) rfl hS
        | 8, ho =>
         cases ho
         have h50 := hdep 5 _ 50 rfl rfl rfl
         have h52 := hdep 7 _ 52 rfl rfl rfl
         simp only [refV] at h50 h52
         exact val_op rfl (wanted_free rfl) (by clear hdep hsame hsz hdf; simp only [refV]; go_simp) rfl hS
        | 9, ho =>
         cases ho
         have h53 := hdep 8 _ 53 rfl rfl rfl
         simp only [refV] at h53
         exact val_op rfl (wanted_free rfl) (by clear hdep hsame hsz hdf; simp only [refV]; go_simp) rfl hS
        | 10, ho =>
         cases ho
         have h11 := hsame 11 rfl
         exact val_op rfl (wanted_free rfl) (by clear hdep hsame hsz hdf; simp only [refV]; go_simp) rfl hS
        | 11, ho =>
         cases ho
         have h55 := hdep 10 _ 55 rfl rfl rfl
         simp only [refV] at h55
         exact val_op rfl (wanted_free rfl) (by clear hdep hsame hsz hdf; simp only [refV]; go_simp) rfl hS
        | 12, ho =>
         cases ho
         have h12 := hsame 12 rfl
         exact val_op rfl (wanted_free rfl) (by clear hdep hsame hsz hdf; simp only [refV]; go_simp) rfl hS
        | 13, ho =>
         cases ho
         have h54 := hdep 9 _ 54 rfl rfl rfl
         have h56 := hdep 11 _ 56 rfl rfl rfl
         have h57 := hdep 12 _ 57 rfl rfl rfl
         simp only [refV] at h54 h56 h57
         exact val_call rfl (wanted_free rfl) (by clear hdep hsame hsz hdf; go_simp) ((cm _).mono fun e w'' ⟨he, hb⟩ => ⟨he, ⟨cell_below hb s0, cell_below hb s1, cell_below hb s2, cell_below hb s3, frozen_below hb s6.lt s4⟩, Below.tr s5 hb, s6.below hb, s7.below hb⟩)
        | 14, ho =>
         cases ho
         have h46 := hdep 1 _ 46 rfl rfl rfl
         have h48 := hdep 3 _ 48 rfl rfl rfl
         simp only [refV] at h46 h48
         exact val_op rfl (wanted_free rfl) (by clear hdep hsame hsz hdf; simp only [refV]; go_simp) rfl hS
        | 15, ho =>
         cases ho
         have h59 := hdep 14 _ 59 rfl rfl rfl
         have h58 := hdep 13 _ 58 rfl rfl rfl
         simp only [refV] at h59 h58
         exact val_skip (w' := X.setCell ⟨g, k, none⟩ (.string y)) rfl (wanted_free rfl) rfl (by clear hdep hsame hsz hdf; go_simp) ⟨s5.setCell (p := ⟨g, k, none⟩) (by show _ ≤ g; omega) _, hnx.out _ s6, s7.set _ _⟩
        | n + 16, ho => simp at ho
       case done4 =>
        rintro X ⟨s5, s6, s7⟩
        simp [filledN, refV]
        go_wp2
        go_roundw
        case rel => exact ⟨j + 1, by omega, by go_num, s6, s7, s5⟩
        case measure => simp [intOf]; omega
    ·
     obtain rfl : j = ps.length := by omega
     replace e0 := hkp.cell (by show w.heap.size + 1 ≠ g; omega) e0
     replace e1 := hkp.cell (by show w.heap.size + 1 ≠ g; omega) e1
     replace f0 := hkp.frozen (by show w.heap.size + 1 < W2.heap.size; omega) (by show w.heap.size + 1 ≠ g; omega) f0
     replace f1 := hkp.frozen (by show w.heap.size + 1 < W2.heap.size; omega) (by show w.heap.size + 1 ≠ g; omega) f1
     replace q0 := hkp.cell (by show w.heap.size + 2 ≠ g; omega) q0
     replace q1 := hkp.cell (by show w.heap.size + 2 ≠ g; omega) q1
     have HE : Hid (∀ v v', IsS ((wr.setCell ⟨w.heap.size + 1, 0, none⟩ v).setCell ⟨w.heap.size + 1, 1, none⟩ v') (some ⟨g, 0, none⟩) cap (crashL M bs ps)) := by
      intro v v'
      rw [xa.out]
      exact (RowS.setOther (RowS.setOther HROW2.out (by omega)) (by omega)).isS (HZ.out _)
     have hl : (crashL M bs ps).length = bs.length := by rw [xa.out]; exact crashN_length _ _ _ _
     clear HROW HROW2 hkp HP HW HI
     go_wp2
     refine bodyPost_ret (v := .agg #[.slice (some ⟨g, 0, none⟩) bs.length cap, .slice none 0 0]) (by simp [results, Tryz.results48, go_sem, e0, e1]) rfl ⟨some ⟨g, 0, none⟩, cap, by rw [hl], HE.out _ _, ?_⟩
     exact (hbel.setCell (p := ⟨w.heap.size + 1, 0, none⟩) (Nat.le_succ _) _).setCell (p := ⟨w.heap.size + 1, 1, none⟩) (Nat.le_succ _) _
theorem row_new (V : World) (t : TypeId) (n : Nat) (p : Int × ByteArray) (hn : n = V.heap.size) : ∀ j u, (cellsP [p])[j]? = some u → (V.alloc (.cells #[.int .i64 p.1, .string p.2] t)).cell? ((⟨n, 0, none⟩ : Addr).add j) = some u := by
 intro j u hj
 rw [at_add, Nat.zero_add, Joins_cell _ _ _ _ _ hn]
 match j, hj with
 | 0, hj => exact hj
 | 1, hj => exact hj
 | j + 2, hj => simp [cellsP] at hj
def appV (h b n g cap : Nat) (u : Value) (k : Int) (s y : ByteArray) : Nat → Value
 | 0 => .pointer (some ⟨h, 1, none⟩)
 | 1 => u
 | 2 => .int .i64 k
 | 3 => .string s
 | 4 => .string y
 | 5 => .agg #[.int .i64 k, .string y]
 | 6 => .slice (some ⟨b, 0, none⟩) 1 1
 | 7 => .slice (some ⟨g, 0, none⟩) (n + 1) cap
 | 8 => .pointer (some ⟨h, 1, none⟩)
 | _ => undef
def fourW (w0 w1 w2 w3 : World) : Nat → World
 | 0 => w0
 | 1 => w1
 | 2 => w2
 | _ => w3
set_option maxRecDepth 20000 in
set_option maxHeartbeats 8000000 in
theorem refWrite_any (a a' : Option Addr) (c c' : Nat) (bs : List ByteArray) (ps : List (Int × ByteArray)) (k : Int) (s : ByteArray) (w : World) (hS : IsS w a c bs) (hP : IsP w a' c' ps) (hk6 : -9223372036854775808 ≤ k ∧ k ≤ 9223372036854775807) (hs : s.size ≤ maxLen) (hl : ps.length ≤ 2047) :
  Calls Tryz.prog 49 #[.agg #[.slice a bs.length c, .slice a' ps.length c'], .int .i64 k, .string s] w fun e w' => ∃ g cap, e = .returned (.agg #[.slice a bs.length c, .slice (some ⟨g, 0, none⟩) (ps.length + 1) cap]) ∧ IsP w' (some ⟨g, 0, none⟩) cap (ps ++ [(k, trimS s)]) ∧ Below w.heap.size w w' := by
 obtain ⟨i0, hi, hz0, hz1, hz2⟩ := info_parts Tryz.info66
 obtain ⟨W, hW⟩ : ∃ W, W = ((w.alloc (.cells #[.slice a bs.length c, .slice a' ps.length c'] 25)).alloc (.cells #[.slice none 0 0, .slice none 0 0] 25)).alloc (.cells #[.slice a bs.length c, .slice none 0 0] 25) := ⟨_, rfl⟩
 obtain ⟨hB0, hWs', ⟨d0, d1⟩, ⟨e0, e1⟩, ⟨f0, f1⟩, ⟨x0, x1⟩, y0, y1⟩ := three_boxes hW
 obtain ⟨B, hBW, hBw⟩ : ∃ B, B = W.heap.size ∧ w.heap.size + 2 < B := ⟨_, rfl, by omega⟩
 have HBW : Hid (B = W.heap.size) := hBW
 have hWs : Hid (W.heap.size = w.heap.size + 3) := hWs'
 have HP : Hid (IsP w a' c' ps) := hP
 have HK : Hid (∀ p ∈ ps, okP p) := isP_okP hP
 clear hS hBW hWs' hP
 go_enter Tryz.func49, Tryz.ntmps49
 go_wp2
 rw [← hW]
 clear hW
 go_loopw [16] (fun v wr => ∃ (j : Nat) (u : Value), j ≤ ps.length ∧ v = .int .i64 j ∧ wr.ownsRow B 66 2 u j (cellsP (ps.take j)) ∧ wr.cell? ⟨w.heap.size + 2, 0, none⟩ = some (.slice a bs.length c) ∧ wr.cell? ⟨w.heap.size + 2, 1, none⟩ = some u ∧
   wr.frozen? ⟨w.heap.size + 2, 0, none⟩ = false ∧ wr.frozen? ⟨w.heap.size + 2, 1, none⟩ = false ∧ KeptD (w.heap.size + 2) W wr ∧ Below w.heap.size w wr) (fun v _ => ps.length - (intOf v).toNat)
 case atStart => exact ⟨0, .slice none 0 0, by omega, rfl, ⟨rfl, .inl ⟨rfl, rfl⟩⟩, x0, x1, y0, y1, KeptD.refl _ _, hB0⟩
 case round =>
  clear x0 x1 y0 y1
  obtain ⟨j, u, hj, rfl, hown, q0, q1, g0, g1, hkp, hbel⟩ := hrel
  have hWr : B ≤ wr.heap.size := by rw [HBW.out]; exact hkp.1
  by_cases hlt : j < ps.length
  ·
   obtain ⟨p, hx⟩ : ∃ x, ps[j]? = some x := ⟨_, List.getElem?_eq_getElem hlt⟩
   obtain ⟨b, o, rfl, hlb, hc1, hc2, hxs⟩ := (hkp.isP HP.out hB0 (by omega)).2.2 j p hx
   have hlt' : (j : Int) < ps.length := by omega
   have hnx : Hid (cellsP (ps.take (j + 1)) = cellsP (ps.take j) ++ cellsP [p]) := by
    show _ = _
    rw [List.take_add_one, hx, ← cellsP_append]; rfl
   have hrow : ∀ k, u.ownBlock = some k → w.heap.size + 2 < k := fun k hk => by have := (hown.lt k hk).1; omega
   have hrow2 : ∀ k, u.ownBlock = some k → B ≤ k := fun k hk => (hown.lt k hk).1
   have q1a := fun o => cell_alloc (cell_alloc q1 o)
   have hwl : w.heap.size + 2 < wr.heap.size := by omega
   clear hx
   go_wp2_with (at_builtin; refine wpList_append_own _ rfl _ _ 23 rfl B 66 i0 _ 2 24 Tryz.underlying23 hi hz0 hz1 hz2 rfl (by decide) _ _ _ rfl ((hown.alloc _).alloc _) ⟨wr.heap.size + 1, 0, none⟩ 1 1 (cellsP [p]) rfl rfl ?c1 ?c2 ?c3 ?c4 ?c5 ?_)
   case c1 => exact row_new _ _ _ p (by simp)
   case c2 => exact cellsP_one _
   case c3 => unfold maxLen; omega
   case c4 => omega
   case c5 => simp; omega
   ·
    intro v' w1 hown' hgrow _
    have R : w1.ownsRow B 66 2 v' (j + 1) (cellsP (ps.take (j + 1))) := by rw [hnx.out]; exact hown'
    obtain ⟨g, cap, rfl, -, -⟩ := R.form (by omega)
    have HR : Hid (w1.ownsRow B 66 2 (.slice (some ⟨g, 0, none⟩) (j + 1) cap) (j + 1) (cellsP (ps.take (j + 1)))) := R
    have hgB : B ≤ g := (R.lt g rfl).1
    have r0 := grown_cell hgrow hrow (cell_alloc (cell_alloc q0 _) _)
    have r1 := grown_cell hgrow hrow (cell_alloc (cell_alloc q1 _) _)
    have t0 := grown_frozen hgrow (by simp; omega) hrow (frozen_alloc (by simp; omega) (frozen_alloc hwl g0 _) _)
    have t1 := grown_frozen hgrow (by simp; omega) hrow (frozen_alloc (by simp; omega) (frozen_alloc hwl g1 _) _)
    have hk' : KeptD (w.heap.size + 2) W w1 := ((hkp.alloc _).alloc _).grown hgrow (fun k hk => by rw [← HBW.out]; exact hrow2 k hk)
    have hb' : Below w.heap.size w w1 := ((hbel.alloc (by omega) _).alloc (by simp; omega) _).grown hgrow (by simp; omega) (fun k hk => by have := hrow2 k hk; omega)
    clear hown' hgrow hown R q0 q1 g0 g1 q1a hkp hbel hrow hrow2
    go_wp2
    go_roundw
    case rel =>
     refine ⟨j + 1, _, by omega, by go_num, ?_, ?_, World.cell?_setCell_same _ _ _ r1, by rw [World.frozen?_setCell]; exact t0, by rw [World.frozen?_setCell]; exact t1, hk'.set _ _, hb'.setCell (p := ⟨w.heap.size + 2, 1, none⟩) (by show w.heap.size ≤ w.heap.size + 2; omega) _⟩
     ·
      exact own_set HR.out (by omega)
     ·
      rw [World.cell?_setCell_other _ _ _ _ (fun hh => by cases hh)]; exact r0
    case measure => simp [intOf]; omega
  ·
   obtain rfl : j = ps.length := by omega
   rw [List.take_length] at hown
   have hrow : ∀ k, u.ownBlock = some k → w.heap.size + 2 < k := fun k hk => by have := (hown.lt k hk).1; omega
   have hrow2 : ∀ k, u.ownBlock = some k → B ≤ k := fun k hk => (hown.lt k hk).1
   replace e0 := hkp.cell (by show w.heap.size + 1 ≠ w.heap.size + 2; omega) e0
   replace e1 := hkp.cell (by show w.heap.size + 1 ≠ w.heap.size + 2; omega) e1
   replace f0 := hkp.frozen (by show w.heap.size + 1 < W.heap.size; rw [hWs.out]; omega) (by show w.heap.size + 1 ≠ w.heap.size + 2; omega) f0
   replace f1 := hkp.frozen (by show w.heap.size + 1 < W.heap.size; rw [hWs.out]; omega) (by show w.heap.size + 1 ≠ w.heap.size + 2; omega) f1
   have hwl : w.heap.size + 2 < wr.heap.size := by omega
   have ct := fun V => devRefTrim_any s V hs
   have hts : (trimS s).size ≤ maxLen := Nat.le_trans (trimS_le s) hs
   obtain ⟨y, hy⟩ : ∃ y, y = trimS s := ⟨_, rfl⟩
   have HY : Hid (y = trimS s) := hy
   rw [← hy] at ct hts
   clear hy
   obtain ⟨g, cap, w2, hrun, hown2, hgrow, hgo, hg2⟩ := run_append_lies (P := Tryz.prog) (wr.drew.alloc (.cells #[.int .i64 k, .string y] 66)) 23 23 B 66 i0 _ 2 24 Tryz.underlying23 hi hz0 hz1 hz2 rfl (by decide) u ps.length (cellsP ps) (hown.drew.alloc _) ⟨wr.heap.size, 0, none⟩ 1 1 (cellsP [(k, y)]) rfl (row_new _ _ _ (k, y) (by simp)) (cellsP_one _) (by omega) (by unfold maxLen; omega) (by omega) (by simp; omega) _ rfl
   have r0 := grown_cell hgrow hrow (cell_alloc (w := wr.drew) q0 _)
   have r1 := grown_cell hgrow hrow (cell_alloc (w := wr.drew) q1 _)
   have t1 := grown_frozen hgrow (by simp; omega) hrow (frozen_alloc (w := wr.drew) hwl g1 _)
   have hgw1 : ∀ k, u.ownBlock = some k → w.heap.size + 1 < k := fun k hk => by have := hrow k hk; omega
   have z0 := grown_cell hgrow hgw1 (cell_alloc (w := wr.drew) e0 _)
   have z1 := grown_cell hgrow hgw1 (cell_alloc (w := wr.drew) e1 _)
   have k0 := grown_frozen hgrow (by simp; omega) hgw1 (frozen_alloc (w := wr.drew) (by show _ < wr.heap.size; omega) f0 _)
   have k1 := grown_frozen hgrow (by simp; omega) hgw1 (frozen_alloc (w := wr.drew) (by show _ < wr.heap.size; omega) f1 _)
   have hb' : Below w.heap.size w w2 := (hbel.drew.alloc (by show _ ≤ wr.heap.size; omega) _).grown hgrow (by simp; omega) (fun k hk => by have := hrow2 k hk; omega)
   have hgB : B ≤ g := (hown2.lt g rfl).1
   have HI : Hid (IsP w2 (some ⟨g, 0, none⟩) cap (ps ++ [(k, y)])) := by
    rw [← cellsP_append] at hown2
    refine owned_isP hown2 (by simp) fun p hp => ?_
    rcases List.mem_append.1 hp with h | h
    ·
     exact HK.out p h
    ·
     obtain rfl : p = (k, y) := by simpa using h
     exact ⟨hts, hk6⟩
   have s0 : wr.drew.cell? ⟨w.heap.size + 1 + 1, 1, none⟩ = some u := q1
   have s1 : (wr.drew.alloc (.cells #[.int .i64 k, .string y] 66)).cell? ⟨w.heap.size + 1 + 1, 1, none⟩ = some u := cell_alloc (w := wr.drew) q1 _
   have s2 : w2.cell? ⟨w.heap.size + 1 + 1, 1, none⟩ = some u := r1
   have s3 : w2.frozen? ⟨w.heap.size + 1 + 1, 1, none⟩ = false := t1
   clear HP hown hown2 hgrow hgo hkp e0 e1 f0 f1 g0 g1 hbel HK d0 d1 hB0
   go_wp2
   refine region_worlds (by kernel_rfl) [6, 7, 9] (appV (w.heap.size + 1 + 1) wr.heap.size ps.length g cap u k s y) (fourW wr.drew (wr.drew.alloc (.cells #[.int .i64 k, .string y] 66)) w2 (w2.setCell ⟨w.heap.size + 1 + 1, 1, none⟩ (.slice (some ⟨g, 0, none⟩) (ps.length + 1) cap)))
    (by kernel_rfl) (by kernel_rfl) rfl ?step 10 rfl ?done
   case step =>
    intro i o ho n a2 hn hmay hdf hsz hdep hsame
    match i, ho with
    | 0, ho =>
     cases ho
     have h7 := hsame 7 rfl
     exact val_op rfl (wanted_free rfl) (by clear hdep hsame hsz hdf; simp only [appV]; go_simp) rfl rfl
    | 1, ho =>
     cases ho
     have h27 := hdep 0 _ 27 rfl rfl rfl
     simp only [appV] at h27
     match n, hn, hmay with
     | 0, _, _ => exact val_op rfl (wanted_free rfl) (by clear hdep hsame hsz hdf; simp only [appV, fourW]; go_simp) rfl rfl
     | 1, _, _ => exact val_op rfl (wanted_free rfl) (by clear hdep hsame hsz hdf; simp only [appV, fourW]; go_simp) rfl rfl
     | 2, _, h => cases h
     | 3, _, h => cases h
     | n + 4, hn, _ => simp at hn
    | 2, ho =>
     cases ho
     have h1 := hsame 1 rfl
     exact val_op rfl (wanted_free rfl) (by clear hdep hsame hsz hdf; simp only [appV]; go_simp) rfl rfl
    | 3, ho =>
     cases ho
     have h2 := hsame 2 rfl
     exact val_op rfl (wanted_free rfl) (by clear hdep hsame hsz hdf; simp only [appV]; go_simp) rfl rfl
    | 4, ho =>
     cases ho
     have h30 := hdep 3 _ 30 rfl rfl rfl
     simp only [appV] at h30
     exact val_call rfl (wanted_free rfl) (by clear hdep hsame hsz hdf; go_simp) ((ct _).mono fun e w'' ⟨he, hb⟩ => ⟨he, hb.symm⟩)
    | 5, ho =>
     cases ho
     have h29 := hdep 2 _ 29 rfl rfl rfl
     have h31 := hdep 4 _ 31 rfl rfl rfl
     simp only [appV] at h29 h31
     exact val_op rfl (wanted_free rfl) (by clear hdep hsame hsz hdf; simp only [appV]; go_simp) rfl rfl
    | 6, ho =>
     cases ho
     have h32 := hdep 5 _ 32 rfl rfl rfl
     simp only [appV] at h32
     match n, hn, hmay with
     | 0, _, _ => exact val_op rfl (wanted_free rfl) (by clear hdep hsame hsz hdf; simp only [appV, fourW]; go_simp) rfl rfl
     | 1, _, h => cases h
     | 2, _, h => cases h
     | 3, _, h => cases h
     | n + 4, hn, _ => simp at hn
    | 7, ho =>
     cases ho
     have h28 := eval_tmp (hdep 1 _ 28 rfl rfl rfl)
     have h33 := eval_tmp (hdep 6 _ 33 rfl rfl rfl)
     simp only [appV] at h28 h33
     match n, hn, hmay with
     | 1, _, _ => exact val_append rfl (wanted_free rfl) rfl h28 h33 hrun rfl rfl
     | 0, _, h => cases h
     | 2, _, h => cases h
     | 3, _, h => cases h
     | n + 4, hn, _ => simp at hn
    | 8, ho =>
     cases ho
     have h7 := hsame 7 rfl
     exact val_op rfl (wanted_free rfl) (by clear hdep hsame hsz hdf; simp only [appV]; go_simp) rfl rfl
    | 9, ho =>
     cases ho
     have h35 := hdep 8 _ 35 rfl rfl rfl
     have h34 := hdep 7 _ 34 rfl rfl rfl
     simp only [appV] at h35 h34
     match n, hn, hmay with
     | 2, _, _ => exact val_skip rfl (wanted_free rfl) rfl (by clear hdep hsame hsz hdf; simp only [fourW]; go_simp) rfl
     | 0, _, h => cases h
     | 1, _, h => cases h
     | 3, _, h => cases h
     | n + 4, hn, _ => simp at hn
    | n + 10, ho => simp at ho
   case done =>
    simp [filledN, appV, fourW]
    obtain ⟨V, hV⟩ : ∃ V, V = w2.setCell ⟨w.heap.size + 1 + 1, 1, none⟩ (.slice (some ⟨g, 0, none⟩) (ps.length + 1) cap) := ⟨_, rfl⟩
    have v0 : V.cell? ⟨w.heap.size + 1 + 1, 0, none⟩ = some (.slice a bs.length c) := by rw [hV, World.cell?_setCell_other _ _ _ _ (fun hh => by cases hh)]; exact r0
    have v1 : V.cell? ⟨w.heap.size + 1 + 1, 1, none⟩ = some (.slice (some ⟨g, 0, none⟩) (ps.length + 1) cap) := by rw [hV]; exact World.cell?_setCell_same _ _ _ s2
    replace z0 : V.cell? ⟨w.heap.size + 1, 0, none⟩ = some (.slice none 0 0) := by rw [hV]; exact cell_set (by omega) z0
    replace z1 : V.cell? ⟨w.heap.size + 1, 1, none⟩ = some (.slice none 0 0) := by rw [hV]; exact cell_set (by omega) z1
    replace k0 : V.frozen? ⟨w.heap.size + 1, 0, none⟩ = false := by rw [hV, World.frozen?_setCell]; exact k0
    replace k1 : V.frozen? ⟨w.heap.size + 1, 1, none⟩ = false := by rw [hV, World.frozen?_setCell]; exact k1
    have HI2 : Hid (∀ v v', IsP ((V.setCell ⟨w.heap.size + 1, 0, none⟩ v).setCell ⟨w.heap.size + 1, 1, none⟩ v') (some ⟨g, 0, none⟩) cap (ps ++ [(k, y)])) := by
     intro v v'
     rw [hV]
     exact isP_set _ (isP_set _ (isP_set _ HI.out (by omega)) (by omega)) (by omega)
    have hbV : Below w.heap.size w V := by rw [hV]; exact hb'.setCell (p := ⟨w.heap.size + 1 + 1, 1, none⟩) (by show _ ≤ w.heap.size + 1 + 1; omega) _
    rw [← hV]
    clear hV s0 s1 s2 s3 r0 r1 t1 q0 q1 HI hrun
    go_wp2
    refine bodyPost_ret (v := .agg #[.slice a bs.length c, .slice (some ⟨g, 0, none⟩) (ps.length + 1) cap]) (by simp [results, Tryz.results49, go_sem, z0, z1]) rfl ⟨g, cap, rfl, by rw [← HY.out]; exact HI2.out _ _, ?_⟩
    exact (hbV.setCell (p := ⟨w.heap.size + 1, 0, none⟩) (Nat.le_succ _) _).setCell (p := ⟨w.heap.size + 1, 1, none⟩) (Nat.le_succ _) _
end Go.Proofs.YtaobfgplheoefaaGreat
namespace Go.Proofs.YtaobfgplheoefaaGreat
open Go.RowKit Plain
open Anylast
set_option linter.unusedVariables false
set_option maxRecDepth 20000 in
set_option maxHeartbeats 1000000 in
theorem likePower_same (a a' b b' : Option Addr) (n n' c c' m m' d d' : Nat) (l : Int) (bs : List ByteArray) (ps : List (Int × ByteArray)) (w : World) (hn : Hid (n = bs.length ∧ n' = ps.length ∧ m = bs.length ∧ m' = ps.length)) (hS : IsS w a c bs) (hP : IsP w a' c' ps) (hT : IsS w b d bs) (hQ : IsP w b' d' ps) :
  Calls Tryz.prog 17 #[.agg #[.slice a n c, .slice a' n' c', .int .i64 l], .agg #[.slice b m d, .slice b' m' d', .int .i64 l]] w fun e w' => e = .returned (.bool true) ∧ Below w.heap.size w w' := by
 obtain ⟨e1, e2, e3, e4⟩ := hn.out
 obtain ⟨W, hW⟩ : ∃ W, W = (w.alloc (.cells #[.slice a n c, .slice a' n' c', .int .i64 l] 47)).alloc (.cells #[.slice b m d, .slice b' m' d', .int .i64 l] 47) := ⟨_, rfl⟩
 have hA : Below w.heap.size w W := by rw [hW]; exact ((Below.refl _ _).alloc (Nat.le_refl _) _).alloc (by simp) _
 have cL := like_any a a' b b' c c' d d' bs bs ps ps W (hS.below hA) (hP.below hA) (hT.below hA) (hQ.below hA)
 have hL : likeD bs bs ps ps = true := by unfold likeD; simp
 rw [hL, show (Value.slice a bs.length c) = .slice a n c by rw [e1], show (Value.slice b bs.length d) = .slice b m d by rw [e3], show (Value.slice a' ps.length c') = .slice a' n' c' by rw [e2], show (Value.slice b' ps.length d') = .slice b' m' d' by rw [e4]] at cL
 clear e1 e2 e3 e4 hn hS hP hT hQ hL
 go_enter Tryz.func17, Tryz.ntmps17
 go_wp2_with (go_at_call 9; rw [← hW]; refine cL.mono ?_; rintro e w1 ⟨rfl, hb⟩)
 go_ret
 exact ⟨rfl, Below.tr hA hb⟩
theorem do_done {w X : World} {z z' : Nat} {E L : Int} {bs : List ByteArray} {ps : List (Int × ByteArray)} {a a' : Option Addr} {n c n' c' : Nat} (r : ResB X z) (o : BoxL X z' [.slice none 0 0, .slice none 0 0, .int .i64 L]) (oe : Ends X z' 3) (hzz : ¬ z = z') (hz : w.heap.size ≤ z) (hz' : w.heap.size ≤ z') (hB : Below w.heap.size w X) (hn : n = bs.length) (hn' : n' = ps.length) (hS : IsS X a c bs) (hP : IsP X a' c' ps) :
  BoxL ((X.setCell ⟨z', 0, none⟩ (.slice a n c)).setCell ⟨z', 1, none⟩ (.slice a' n' c')) z' [.slice a n c, .slice a' n' c', .int .i64 L] ∧ ResB ((X.setCell ⟨z', 0, none⟩ (.slice a n c)).setCell ⟨z', 1, none⟩ (.slice a' n' c')) z ∧
  BoxL (res3 ((X.setCell ⟨z', 0, none⟩ (.slice a n c)).setCell ⟨z', 1, none⟩ (.slice a' n' c')) z (.slice a n c) (.slice a' n' c') (.int .i64 L)) z [.slice a n c, .slice a' n' c', .int .i64 L] ∧ PowC w E L bs ps (.returned (.tuple #[.agg #[.slice a n c, .slice a' n' c', .int .i64 L], .int .i64 E])) (res3 ((X.setCell ⟨z', 0, none⟩ (.slice a n c)).setCell ⟨z', 1, none⟩ (.slice a' n' c')) z (.slice a n c) (.slice a' n' c') (.int .i64 L)) := by
 have t : Turns (fun k => k = z') X ((X.setCell ⟨z', 0, none⟩ (.slice a n c)).setCell ⟨z', 1, none⟩ (.slice a' n' c')) := ((Turns.refl (fun k => k = z') X).setCell (p := ⟨z', 0, none⟩) rfl _).setCell (p := ⟨z', 1, none⟩) rfl _
 have r2 := r.turns t hzz
 exact ⟨(o.set 0 _).set 1 _, r2, res_done r2 hz (Below.turns hB t (fun i e => by omega)) hn hn' (isS_offText hS o oe noText_three t) (isP_offText hP o oe noText_three t)⟩
theorem do_world {w W : World} {a a' : Option Addr} {n n' c c' : Nat} {l L k : Int} {s : ByteArray} {t1 t2 t3 t4 : TypeId} (hW : W = (((w.alloc (.cells #[.slice a n c, .slice a' n' c', .int .i64 l] t1)).alloc (.cells #[.int .i64 k, .string s] t2)).alloc (.cells #[.slice none 0 0, .slice none 0 0, .int .i64 0] t3)).alloc (.cells #[.slice none 0 0, .slice none 0 0, .int .i64 L] t4)) :
  Below w.heap.size w W ∧ BoxL W w.heap.size [.slice a n c, .slice a' n' c', .int .i64 l] ∧ BoxL W (w.heap.size + 1) [.int .i64 k, .string s] ∧ ResB W (w.heap.size + 1 + 1) ∧ BoxL W (w.heap.size + 1 + 1 + 1) [.slice none 0 0, .slice none 0 0, .int .i64 L] ∧ Ends W (w.heap.size + 1 + 1 + 1) 3 := by
 subst hW
 have b := (Below.refl w.heap.size w).alloc (Nat.le_refl _) (.cells #[.slice a n c, .slice a' n' c', .int .i64 l] t1)
 refine ⟨((b.alloc (by simp) _).alloc (by simp; omega) _).alloc (by simp; omega) _, (((boxL_new w [_, _, _] _ rfl).alloc _).alloc _).alloc _, ((boxL_new _ [_, _] _ (by simp)).alloc _).alloc _, ?_, boxL_new _ [_, _, _] _ (by simp), ends_new _ [_, _, _] _ (by simp)⟩
 have r : ResB (((w.alloc (.cells #[.slice a n c, .slice a' n' c', .int .i64 l] t1)).alloc (.cells #[.int .i64 k, .string s] t2)).alloc (.cells #[.slice none 0 0, .slice none 0 0, .int .i64 0] t3)) (w.heap.size + 1 + 1) := ⟨boxL_new _ [_, _, _] _ (by simp), ends_new _ [_, _, _] _ (by simp)⟩
 exact r.below ((Below.refl _ _).alloc (Nat.le_refl _) _)
theorem do_back {w V : World} {a a' : Option Addr} {n n' c c' : Nat} {l L k : Int} {s : ByteArray} {t1 t2 t3 t4 : TypeId} (hV : V = (((w.alloc (.cells #[.slice a n c, .slice a' n' c', .int .i64 l] t1)).alloc (.cells #[.int .i64 k, .string s] t2)).alloc (.cells #[.slice a n c, .slice a' n' c', .int .i64 l] t3)).alloc (.cells #[.slice none 0 0, .slice none 0 0, .int .i64 L] t4)) :
  Below w.heap.size w V ∧ BoxL V (w.heap.size + 1 + 1) [.slice a n c, .slice a' n' c', .int .i64 l] := by
 subst hV
 have b := (Below.refl w.heap.size w).alloc (Nat.le_refl _) (.cells #[.slice a n c, .slice a' n' c', .int .i64 l] t1)
 exact ⟨((b.alloc (by simp) _).alloc (by simp; omega) _).alloc (by simp; omega) _, (boxL_new _ [_, _, _] _ (by simp)).alloc _⟩
theorem ctL_zero (l : Int) : ctL l 0 = if 0 < l then l - 1 else l := by unfold ctL; rw [if_pos rfl]
set_option maxRecDepth 20000 in
set_option maxHeartbeats 2000000 in
theorem refDoF_any (a a' : Option Addr) (n n' c c' : Nat) (l k : Int) (s : ByteArray) (bs : List ByteArray) (ps : List (Int × ByteArray)) (w : World) (hn : n = bs.length) (hn' : n' = ps.length) (hS : IsS w a c bs) (hP : IsP w a' c' ps) (hr : rightD bs ps = true) (hl0 : ¬ l = 0) (hk : k < 0) (h64 : -9223372036854775808 ≤ l ∧ l ≤ 9223372036854775807) :
  Calls Tryz.prog 19 #[.agg #[.slice a n c, .slice a' n' c', .int .i64 l], .agg #[.int .i64 k, .string s]] w fun e w' => PowC w (csE l bs ps) (ctL l (csE l bs ps)) (csB l bs ps) (csP l bs ps) e w' := by
 obtain ⟨W, hW⟩ : ∃ W, W = (((w.alloc (.cells #[.slice a n c, .slice a' n' c', .int .i64 l] 47)).alloc (.cells #[.int .i64 k, .string s] 54)).alloc (.cells #[.slice none 0 0, .slice none 0 0, .int .i64 0] 47)).alloc (.cells #[.slice none 0 0, .slice none 0 0, .int .i64 (ctL l 0)] 47) := ⟨_, rfl⟩
 obtain ⟨hA, b0, b1, r0, o0, oe⟩ := do_world hW
 have hWs : w.heap.size + 1 + 1 + 1 < W.heap.size := o0.lt (by simp)
 have eE : csE l bs ps = 0 := by unfold csE ctE rightE; rw [if_neg hl0, if_pos hr]
 have eB : csB l bs ps = crashL (maskOf true []) bs ps := by
  unfold csB ctV flB flushL rightE
  rw [if_neg hl0, if_pos hr, if_pos rfl, if_pos hr]
  rfl
 have eP : csP l bs ps = [] := by unfold csP ctV flP rightE; rw [if_neg hl0, if_pos hr, if_pos rfl]
 have cC := refCrash_any a a' none c c' 0 bs ps true [] W (hS.below hA) (hP.below hA) (isI_nil _) hr
 rw [← hn, ← hn'] at cC
 rw [eE, eB, eP]
 generalize crashL (maskOf true []) bs ps = B at *
 have hE0 : ([] : List Int).length = 0 := rfl
 rw [hE0] at cC
 have eL := ctL_zero l
 generalize ctL l 0 = L at *
 clear eE eB eP hn hn' hS hP hr hE0
 obtain ⟨m, hm⟩ : ∃ m, m = B.length := ⟨_, rfl⟩
 rw [← hm] at cC
 have HM : Hid (m = B.length) := hm
 clear hm
 have HF : Hid (∀ w1 b d, IsS w1 b d B → Below W.heap.size W w1 → _) := fun w1 b d iS hb => do_done (w := w) (E := 0) (n' := 0) (r0.below hb) (o0.below hb) (oe.below hWs hb) (by omega) (by omega) (by omega) (Below.tr hA hb) HM.out rfl iS (IsP_nil w1)
 have q0 := b0.1 0 _ rfl
 have q1 := b0.1 1 _ rfl
 have q2 := b0.1 2 _ rfl
 have p0 := b1.1 0 _ rfl
 by_cases hl : 0 < l
 ·
  rw [if_pos hl] at eL
  subst eL
  have hwr : IntKind.i64.wrap (l - 1) = l - 1 := i64_in _ (by omega) (by omega)
  clear h64
  rw [hW] at q0 q1 q2 p0
  clear HM oe b0 b1 hA
  go_enter Tryz.func19, Tryz.ntmps19
  go_wp2_with (first | (go_at_call 48; rw [← hW]; refine cC.mono ?_; rintro e w1 ⟨b, d, rfl, iS, hb⟩; obtain ⟨o2, r2, y, hy⟩ := HF.out w1 b d iS hb; have r1 := r0.below hb; have o1 := o0.below hb; have f0 := o1.2 0 (by simp); have f1 := o1.2 1 (by simp); have u0 := o1.1 0 _ rfl; have u1 := o1.1 1 _ rfl; have v0 := o2.1 0 _ rfl; have v1 := o2.1 1 _ rfl; have v2 := o2.1 2 _ rfl; have g0 := r2.1.1 0 _ rfl; have g1 := r2.1.1 1 _ rfl; have g2 := r2.1.1 2 _ rfl; have j0 := r2.1.2 0 (by simp); have j1 := r2.1.2 1 (by simp); have j2 := r2.1.2 2 (by simp); have y0 := y.1 0 _ rfl; have y1 := y.1 1 _ rfl; have y2 := y.1 2 _ rfl; unfold res3 at y0 y1 y2 hy; have HY : Hid (PowC _ _ _ _ _ _ _) := hy; clear hb iS o2 r2 y hy r1 o1 q0 q1 q2 p0))
  exact bodyPost_ret (v := .tuple #[.agg #[.slice b m d, .slice none 0 0, .int .i64 (l - 1)], .int .i64 0]) (by simp [results, Tryz.results19, go_sem, y0, y1, y2]) rfl HY.out
 ·
  rw [if_neg hl] at eL
  subst eL
  clear h64
  rw [hW] at q0 q1 q2 p0
  clear HM oe b0 b1 hA
  go_enter Tryz.func19, Tryz.ntmps19
  go_wp2_with (first | (go_at_call 48; rw [← hW]; refine cC.mono ?_; rintro e w1 ⟨b, d, rfl, iS, hb⟩; obtain ⟨o2, r2, y, hy⟩ := HF.out w1 b d iS hb; have r1 := r0.below hb; have o1 := o0.below hb; have f0 := o1.2 0 (by simp); have f1 := o1.2 1 (by simp); have u0 := o1.1 0 _ rfl; have u1 := o1.1 1 _ rfl; have v0 := o2.1 0 _ rfl; have v1 := o2.1 1 _ rfl; have v2 := o2.1 2 _ rfl; have g0 := r2.1.1 0 _ rfl; have g1 := r2.1.1 1 _ rfl; have g2 := r2.1.1 2 _ rfl; have j0 := r2.1.2 0 (by simp); have j1 := r2.1.2 1 (by simp); have j2 := r2.1.2 2 (by simp); have y0 := y.1 0 _ rfl; have y1 := y.1 1 _ rfl; have y2 := y.1 2 _ rfl; unfold res3 at y0 y1 y2 hy; have HY : Hid (PowC _ _ _ _ _ _ _) := hy; clear hb iS o2 r2 y hy r1 o1 q0 q1 q2 p0))
  exact bodyPost_ret (v := .tuple #[.agg #[.slice b m d, .slice none 0 0, .int .i64 L], .int .i64 0]) (by simp [results, Tryz.results19, go_sem, y0, y1, y2]) rfl HY.out
theorem cw_long {l : Int} {bs : List ByteArray} {ps : List (Int × ByteArray)} {k : Int} {s : ByteArray} (hl0 : ¬ l = 0) {E : Int} (hE : writeE bs ps k s = E) (h0 : ¬ E = 0) : cwE l bs ps k s = E ∧ ctL l (cwE l bs ps k s) = l ∧ cwB l bs ps k s = bs ∧ cwP l bs ps k s = ps := by
 have e : cwE l bs ps k s = E := by unfold cwE ctE; rw [if_neg hl0, hE]
 refine ⟨e, ?_, ?_, ?_⟩
 ·
  rw [e]; unfold ctL; rw [if_neg h0]
 ·
  unfold cwB ctV wrB; rw [if_neg hl0, hE, if_neg h0]
 ·
  unfold cwP ctV wrP; rw [if_neg hl0, hE, if_neg h0]
theorem cw_ok {l : Int} {bs : List ByteArray} {ps : List (Int × ByteArray)} {k : Int} {s : ByteArray} (hl0 : ¬ l = 0) (hE : writeE bs ps k s = 0) : cwE l bs ps k s = 0 ∧ ctL l (cwE l bs ps k s) = ctL l 0 ∧ cwB l bs ps k s = bs ∧ cwP l bs ps k s = ps ++ [(k, trimS s)] := by
 have e : cwE l bs ps k s = 0 := by unfold cwE ctE; rw [if_neg hl0, hE]
 refine ⟨e, by rw [e], ?_, ?_⟩
 ·
  unfold cwB ctV wrB; rw [if_neg hl0, if_pos hE, (write_ok hE).1]
 ·
  unfold cwP ctV wrP; rw [if_neg hl0, if_pos hE, (write_ok hE).2]
set_option maxRecDepth 20000 in
set_option maxHeartbeats 8000000 in
theorem refDoW_any (a a' : Option Addr) (n n' c c' : Nat) (l k : Int) (s : ByteArray) (bs : List ByteArray) (ps : List (Int × ByteArray)) (w : World) (hn : n = bs.length) (hn' : n' = ps.length) (hS : IsS w a c bs) (hP : IsP w a' c' ps) (hr : rightD bs ps = true) (hl0 : ¬ l = 0) (hk : ¬ k < 0) (hk6 : k ≤ 9223372036854775807) (hs : s.size ≤ maxLen) (h64 : -9223372036854775808 ≤ l ∧ l ≤ 9223372036854775807) :
  Calls Tryz.prog 19 #[.agg #[.slice a n c, .slice a' n' c', .int .i64 l], .agg #[.int .i64 k, .string s]] w fun e w' => PowC w (cwE l bs ps k s) (ctL l (cwE l bs ps k s)) (cwB l bs ps k s) (cwP l bs ps k s) e w' := by
 obtain ⟨W, hW⟩ : ∃ W, W = (((w.alloc (.cells #[.slice a n c, .slice a' n' c', .int .i64 l] 47)).alloc (.cells #[.int .i64 k, .string s] 54)).alloc (.cells #[.slice none 0 0, .slice none 0 0, .int .i64 0] 47)).alloc (.cells #[.slice none 0 0, .slice none 0 0, .int .i64 (ctL l 0)] 47) := ⟨_, rfl⟩
 obtain ⟨hA, b0, b1, r0, o0, oe⟩ := do_world hW
 have hWs : w.heap.size + 1 + 1 + 1 < W.heap.size := o0.lt (by simp)
 have hm1 : n ≤ 9223372036854775807 := by rw [hn]; exact Nat.le_trans hS.1 hS.2.1
 have hm2 : n' ≤ 9223372036854775807 := by rw [hn']; exact Nat.le_trans hP.1 hP.2.1
 have hs7 : s.size ≤ 9223372036854775807 := hs
 by_cases hkb : (n : Int) ≤ k
 ·
  have eW := cw_long (bs := bs) (ps := ps) (k := k) (s := s) hl0 (E := 30) (by
   have e : blkE bs ps k = 30 := by
    unfold blkE
    rw [if_pos hr, if_neg (by rw [Bool.and_eq_true, decide_eq_true_eq, decide_eq_true_eq]; omega)]
   unfold writeE
   rw [e, if_neg (by omega)]) (by omega)
  rw [eW.2.1, eW.1, eW.2.2.1, eW.2.2.2]
  obtain ⟨V, hV⟩ : ∃ V, V = (((w.alloc (.cells #[.slice a n c, .slice a' n' c', .int .i64 l] 47)).alloc (.cells #[.int .i64 k, .string s] 54)).alloc (.cells #[.slice a n c, .slice a' n' c', .int .i64 l] 47)).alloc (.cells #[.slice none 0 0, .slice none 0 0, .int .i64 (ctL l 0)] 47) := ⟨_, rfl⟩
  obtain ⟨hB, y⟩ := do_back hV
  have HY : Hid (PowC w 30 l bs ps (.returned (.tuple #[.agg #[.slice a n c, .slice a' n' c', .int .i64 l], .int .i64 30])) V) := ⟨a, n, c, a', n', c', hn, hn', rfl, hS.below hB, hP.below hB, hB⟩
  have y0 := y.1 0 _ rfl
  have y1 := y.1 1 _ rfl
  have y2 := y.1 2 _ rfl
  have eL := ctL_zero l
  generalize ctL l 0 = L at *
  rw [hV] at y0 y1 y2 HY
  clear y hB hV eW r0 b0 b1 o0 oe hA hn hn' hS hP hr hWs hW
  by_cases hl : 0 < l
  ·
   rw [if_pos hl] at eL
   subst eL
   have hwr : IntKind.i64.wrap (l - 1) = l - 1 := i64_in _ (by omega) (by omega)
   clear h64
   go_enter Tryz.func19, Tryz.ntmps19
   go_wp2
   exact bodyPost_ret (v := .tuple #[.agg #[.slice a n c, .slice a' n' c', .int .i64 l], .int .i64 30]) (by simp [results, Tryz.results19, go_sem, y0, y1, y2]) rfl HY.out
  ·
   rw [if_neg hl] at eL
   subst eL
   clear h64
   go_enter Tryz.func19, Tryz.ntmps19
   go_wp2
   exact bodyPost_ret (v := .tuple #[.agg #[.slice a n c, .slice a' n' c', .int .i64 L], .int .i64 30]) (by simp [results, Tryz.results19, go_sem, y0, y1, y2]) rfl HY.out
 ·
  have eK : blkE bs ps k = 0 := by
   unfold blkE
   rw [if_pos hr, if_pos (by rw [Bool.and_eq_true, decide_eq_true_eq, decide_eq_true_eq]; omega)]
  have hp8 : ps.length ≤ 2048 := ((rightD_iff bs ps).1 hr).1.2.2
  by_cases hs4 : (4096 : Int) < s.size
  ·
   have eW := cw_long (bs := bs) (ps := ps) (k := k) (s := s) hl0 (E := 2) (by unfold writeE; rw [if_pos eK, if_pos (.inl (by omega))]) (by omega)
   clear eK hp8
   rw [eW.2.1, eW.1, eW.2.2.1, eW.2.2.2]
   obtain ⟨V, hV⟩ : ∃ V, V = (((w.alloc (.cells #[.slice a n c, .slice a' n' c', .int .i64 l] 47)).alloc (.cells #[.int .i64 k, .string s] 54)).alloc (.cells #[.slice a n c, .slice a' n' c', .int .i64 l] 47)).alloc (.cells #[.slice none 0 0, .slice none 0 0, .int .i64 (ctL l 0)] 47) := ⟨_, rfl⟩
   obtain ⟨hB, y⟩ := do_back hV
   have HY : Hid (PowC w 2 l bs ps (.returned (.tuple #[.agg #[.slice a n c, .slice a' n' c', .int .i64 l], .int .i64 2])) V) := ⟨a, n, c, a', n', c', hn, hn', rfl, hS.below hB, hP.below hB, hB⟩
   have y0 := y.1 0 _ rfl
   have y1 := y.1 1 _ rfl
   have y2 := y.1 2 _ rfl
   have eL := ctL_zero l
   generalize ctL l 0 = L at *
   rw [hV] at y0 y1 y2 HY
   clear y hB hV eW r0 b0 b1 o0 oe hA hn hn' hS hP hr hWs hW
   by_cases hl : 0 < l
   ·
    rw [if_pos hl] at eL
    subst eL
    have hwr : IntKind.i64.wrap (l - 1) = l - 1 := i64_in _ (by omega) (by omega)
    clear h64
    go_enter Tryz.func19, Tryz.ntmps19
    go_wp2
    exact bodyPost_ret (v := .tuple #[.agg #[.slice a n c, .slice a' n' c', .int .i64 l], .int .i64 2]) (by simp [results, Tryz.results19, go_sem, y0, y1, y2]) rfl HY.out
   ·
    rw [if_neg hl] at eL
    subst eL
    clear h64
    go_enter Tryz.func19, Tryz.ntmps19
    go_wp2
    exact bodyPost_ret (v := .tuple #[.agg #[.slice a n c, .slice a' n' c', .int .i64 L], .int .i64 2]) (by simp [results, Tryz.results19, go_sem, y0, y1, y2]) rfl HY.out
  ·
   by_cases hp4 : (2048 : Int) ≤ n'
   ·
    have eW := cw_long (bs := bs) (ps := ps) (k := k) (s := s) hl0 (E := 2) (by unfold writeE; rw [if_pos eK, if_pos (.inr (by omega))]) (by omega)
    clear eK hp8
    rw [eW.2.1, eW.1, eW.2.2.1, eW.2.2.2]
    obtain ⟨V, hV⟩ : ∃ V, V = (((w.alloc (.cells #[.slice a n c, .slice a' n' c', .int .i64 l] 47)).alloc (.cells #[.int .i64 k, .string s] 54)).alloc (.cells #[.slice a n c, .slice a' n' c', .int .i64 l] 47)).alloc (.cells #[.slice none 0 0, .slice none 0 0, .int .i64 (ctL l 0)] 47) := ⟨_, rfl⟩
    obtain ⟨hB, y⟩ := do_back hV
    have HY : Hid (PowC w 2 l bs ps (.returned (.tuple #[.agg #[.slice a n c, .slice a' n' c', .int .i64 l], .int .i64 2])) V) := ⟨a, n, c, a', n', c', hn, hn', rfl, hS.below hB, hP.below hB, hB⟩
    have y0 := y.1 0 _ rfl
    have y1 := y.1 1 _ rfl
    have y2 := y.1 2 _ rfl
    have eL := ctL_zero l
    generalize ctL l 0 = L at *
    rw [hV] at y0 y1 y2 HY
    clear y hB hV eW r0 b0 b1 o0 oe hA hn hn' hS hP hr hWs hW
    by_cases hl : 0 < l
    ·
     rw [if_pos hl] at eL
     subst eL
     have hwr : IntKind.i64.wrap (l - 1) = l - 1 := i64_in _ (by omega) (by omega)
     clear h64
     go_enter Tryz.func19, Tryz.ntmps19
     go_wp2
     exact bodyPost_ret (v := .tuple #[.agg #[.slice a n c, .slice a' n' c', .int .i64 l], .int .i64 2]) (by simp [results, Tryz.results19, go_sem, y0, y1, y2]) rfl HY.out
    ·
     rw [if_neg hl] at eL
     subst eL
     clear h64
     go_enter Tryz.func19, Tryz.ntmps19
     go_wp2
     exact bodyPost_ret (v := .tuple #[.agg #[.slice a n c, .slice a' n' c', .int .i64 L], .int .i64 2]) (by simp [results, Tryz.results19, go_sem, y0, y1, y2]) rfl HY.out
   ·
    have eW := cw_ok (bs := bs) (ps := ps) (k := k) (s := s) hl0 (by unfold writeE; rw [if_pos eK, if_neg (by omega)])
    have cC := refWrite_any a a' c c' bs ps k s W (hS.below hA) (hP.below hA) ⟨by omega, hk6⟩ hs (by omega)
    rw [← hn, ← hn'] at cC
    have hSW := hS.below hA
    rw [eW.2.1, eW.1, eW.2.2.1, eW.2.2.2]
    have HM : Hid (n = bs.length ∧ n' + 1 = (ps ++ [(k, trimS s)]).length) := ⟨hn, by rw [List.length_append, hn']; rfl⟩
    have eL := ctL_zero l
    generalize ps ++ [(k, trimS s)] = P at *
    have HF : Hid (∀ w1 g cap, IsP w1 (some ⟨g, 0, none⟩) cap P → Below W.heap.size W w1 → _) := fun w1 g cap iP hb => do_done (w := w) (E := 0) (L := ctL l 0) (n := n) (n' := n' + 1) (r0.below hb) (o0.below hb) (oe.below hWs hb) (by omega) (by omega) (by omega) (Below.tr hA hb) HM.out.1 HM.out.2 (hSW.below hb) iP
    generalize ctL l 0 = L at *
    have q0 := b0.1 0 _ rfl
    have q1 := b0.1 1 _ rfl
    have q2 := b0.1 2 _ rfl
    have p0 := b1.1 0 _ rfl
    have p1 := b1.1 1 _ rfl
    clear eW eK hp8 HM oe b0 b1 hn hn' hS hP hr hSW hA
    by_cases hl : 0 < l
    ·
     rw [if_pos hl] at eL
     subst eL
     have hwr : IntKind.i64.wrap (l - 1) = l - 1 := i64_in _ (by omega) (by omega)
     clear h64
     rw [hW] at q0 q1 q2 p0 p1
     go_enter Tryz.func19, Tryz.ntmps19
     go_wp2_with (go_at_call 49; rw [← hW]; refine cC.mono ?_; rintro e w1 ⟨g, cap, rfl, iP, hb⟩; obtain ⟨o2, r2, y, hy⟩ := HF.out w1 g cap iP hb; have o1 := o0.below hb; have f0 := o1.2 0 (by simp); have f1 := o1.2 1 (by simp); have u0 := o1.1 0 _ rfl; have u1 := o1.1 1 _ rfl; have v0 := o2.1 0 _ rfl; have v1 := o2.1 1 _ rfl; have v2 := o2.1 2 _ rfl; have g0 := r2.1.1 0 _ rfl; have g1 := r2.1.1 1 _ rfl; have g2 := r2.1.1 2 _ rfl; have j0 := r2.1.2 0 (by simp); have j1 := r2.1.2 1 (by simp); have j2 := r2.1.2 2 (by simp); have y0 := y.1 0 _ rfl; have y1 := y.1 1 _ rfl; have y2 := y.1 2 _ rfl; unfold res3 at y0 y1 y2 hy; have HY : Hid (PowC _ _ _ _ _ _ _) := hy; clear hb iP o2 r2 y hy o1 q0 q1 q2 p0 p1)
     exact bodyPost_ret (v := .tuple #[.agg #[.slice a n c, .slice (some ⟨g, 0, none⟩) (n' + 1) cap, .int .i64 (l - 1)], .int .i64 0]) (by simp [results, Tryz.results19, go_sem, y0, y1, y2]) rfl HY.out
    ·
     rw [if_neg hl] at eL
     subst eL
     clear h64
     rw [hW] at q0 q1 q2 p0 p1
     go_enter Tryz.func19, Tryz.ntmps19
     go_wp2_with (go_at_call 49; rw [← hW]; refine cC.mono ?_; rintro e w1 ⟨g, cap, rfl, iP, hb⟩; obtain ⟨o2, r2, y, hy⟩ := HF.out w1 g cap iP hb; have o1 := o0.below hb; have f0 := o1.2 0 (by simp); have f1 := o1.2 1 (by simp); have u0 := o1.1 0 _ rfl; have u1 := o1.1 1 _ rfl; have v0 := o2.1 0 _ rfl; have v1 := o2.1 1 _ rfl; have v2 := o2.1 2 _ rfl; have g0 := r2.1.1 0 _ rfl; have g1 := r2.1.1 1 _ rfl; have g2 := r2.1.1 2 _ rfl; have j0 := r2.1.2 0 (by simp); have j1 := r2.1.2 1 (by simp); have j2 := r2.1.2 2 (by simp); have y0 := y.1 0 _ rfl; have y1 := y.1 1 _ rfl; have y2 := y.1 2 _ rfl; unfold res3 at y0 y1 y2 hy; have HY : Hid (PowC _ _ _ _ _ _ _) := hy; clear hb iP o2 r2 y hy o1 q0 q1 q2 p0 p1)
     exact bodyPost_ret (v := .tuple #[.agg #[.slice a n c, .slice (some ⟨g, 0, none⟩) (n' + 1) cap, .int .i64 L], .int .i64 0]) (by simp [results, Tryz.results19, go_sem, y0, y1, y2]) rfl HY.out
end Go.Proofs.YtaobfgplheoefaaGreat
namespace Go.Proofs.YtaobfgplheoefaaGreat
open Go.RowKit Plain
set_option linter.unusedVariables false
theorem okS_last (s : ByteArray) (k : Nat) (hk : s.size = k + 1) (h : s.size ≤ 4096) : okS s = ((s[k].toNat : Int) != 0) := by
 have hb : byteAt s (s.size - 1) = s[k] := by
  have e : s.size - 1 = k := by omega
  rw [e]
  unfold byteAt
  rw [List.getElem?_eq_getElem (show k < s.data.toList.length by show k < s.size; omega)]
  rfl
 rw [Bool.eq_iff_iff, okS_iff]
 unfold Even
 rw [hb]
 constructor
 ·
  rintro ⟨_, h2⟩
  have h3 := h2 (by omega)
  have : s[k].toNat ≠ 0 := fun h => h3 (UInt8.toNat_inj.1 h)
  simpa using this
 ·
  intro h2
  refine ⟨h, fun _ h3 => ?_⟩
  rw [h3] at h2
  exact absurd h2 (by decide)
set_option maxRecDepth 20000 in
set_option maxHeartbeats 400000 in
theorem trimmed_any (s : ByteArray) (w : World) (hs : s.size ≤ maxLen) :
  Calls Tryz.prog 47 #[.string s] w fun e w' => e = .returned (.bool (okS s)) ∧ w = w' := by
 have hs' : s.size ≤ 9223372036854775807 := hs
 by_cases h : s.size ≤ 4096
 ·
  have h' : (s.size : Int) ≤ 4096 := by omega
  by_cases h0 : s.size = 0
  ·
   have e : Hid (okS s = true) := by
    show _ = _
    rw [okS_iff]
    exact ⟨h, fun hh => by omega⟩
   have h0' : ((s.size : Int) == 0) = true := by simp [h0]
   go_enter Tryz.func47, Tryz.ntmps47
   go_wp2
   all_goals first
    | omega
    | (go_ret; exact ⟨ret_bool e.out.symm, rfl⟩)
  ·
   obtain ⟨k, hk⟩ : ∃ k, s.size = k + 1 := ⟨s.size - 1, by omega⟩
   have e : Hid (okS s = ((s[k].toNat : Int) != 0)) := okS_last s k hk h
   have h0' : ((s.size : Int) == 0) = false := by simp [h0]
   have hk' : (s.size : Int) = (k : Int) + 1 := by omega
   go_enter Tryz.func47, Tryz.ntmps47
   go_wp2
   go_ret
   refine ⟨ret_bool ?_, rfl⟩
   rw [e.out, show (((k : Int) + 1 == 0) = false) by simp; omega]
   rfl
 ·
  have e : Hid (okS s = false) := by
   show _ = _
   unfold okS
   rw [decide_eq_false h]; rfl
  have h' : ¬ (s.size : Int) ≤ 4096 := by omega
  go_enter Tryz.func47, Tryz.ntmps47
  go_wp2
  go_ret
  exact ⟨ret_bool e.out.symm, rfl⟩
set_option maxHeartbeats 1000000 in
theorem refRight_any (a a' : Option Addr) (c c' : Nat) (bs : List ByteArray) (ps : List (Int × ByteArray)) (w : World) (hS : IsS w a c bs) (hP : IsP w a' c' ps) :
  Calls Tryz.prog 18 #[.agg #[.slice a bs.length c, .slice a' ps.length c']] w fun e w' => e = .returned (.bool (rightD bs ps)) ∧ Below w.heap.size w w' := by
 have hB0 : Below w.heap.size w (w.alloc (.cells #[.slice a bs.length c, .slice a' ps.length c'] 25)) := (Below.refl _ _).alloc (Nat.le_refl _) _
 have HS : Hid (IsS _ a c bs) := hS.below hB0
 have HP : Hid (IsP _ a' c' ps) := hP.below hB0
 have hm : bs.length ≤ 9223372036854775807 := Nat.le_trans hS.1 hS.2.1
 have hm' : ps.length ≤ 9223372036854775807 := Nat.le_trans hP.1 hP.2.1
 clear hS hP
 by_cases hsz : 1 ≤ bs.length ∧ bs.length ≤ 2048 ∧ ps.length ≤ 2048
 ·
  obtain ⟨h1, h2, h3⟩ := hsz
  have h1' : 1 ≤ (bs.length : Int) := by omega
  have h2' : (bs.length : Int) ≤ 2048 := by omega
  have h3' : (ps.length : Int) ≤ 2048 := by omega
  go_enter Tryz.func18, Tryz.ntmps18
  go_wp2
  go_loop [26] (fun v => ∃ j : Nat, j ≤ bs.length ∧ v = .int .i64 j ∧ ∀ y ∈ bs.take j, okS y = true) (fun v => bs.length - (intOf v).toNat)
  case atStart => exact ⟨0, by omega, rfl, fun y hy => by simp at hy⟩
  case round =>
   obtain ⟨j, hj, rfl, HA⟩ := hrel
   by_cases hlt : j < bs.length
   ·
    obtain ⟨x, hx⟩ : ∃ x, bs[j]? = some x := ⟨_, List.getElem?_eq_getElem hlt⟩
    obtain ⟨b, o, rfl, hlb, hc, hxs⟩ := HS.out.2.2 j x hx
    have hA' : Hid (okS x = true → ∀ y ∈ bs.take (j + 1), okS y = true) := devTake_all HA hx
    have hF : Hid (okS x = false → rightD bs ps = false) := rightD_block hx
    clear HA hx hlb
    have hlt' : (j : Int) < bs.length := by omega
    cases hok : okS x with
    | true =>
     go_wp2_with (go_at_call 47; refine (trimmed_any x _ hxs).mono ?_; rw [hok]; rintro e w3 ⟨rfl, rfl⟩)
     go_round
     case rel => exact ⟨j + 1, by omega, by go_num, hA'.out hok⟩
     case measure => simp [intOf]; omega
    | false =>
     go_wp2_with (go_at_call 47; refine (trimmed_any x _ hxs).mono ?_; rw [hok]; rintro e w3 ⟨rfl, rfl⟩)
     go_ret
     exact ⟨ret_bool (hF.out hok).symm, hB0⟩
   ·
    obtain rfl : j = bs.length := by omega
    rw [List.take_length] at HA
    have HB : Hid (∀ y ∈ bs, okS y = true) := HA
    clear HA hj hlt
    obtain ⟨W, hW⟩ : ∃ W, W = w.alloc (.cells #[.slice a bs.length c, .slice a' ps.length c'] 25) := ⟨_, rfl⟩
    go_wp2
    go_loopw [37] (fun v wr => ∃ j : Nat, j ≤ ps.length ∧ v = .int .i64 j ∧ (∀ y ∈ ps.take j, okW bs.length y = true) ∧ Below W.heap.size W wr) (fun v _ => ps.length - (intOf v).toNat)
    case atStart => exact ⟨0, by omega, rfl, fun y hy => by simp at hy, by rw [hW]; exact Below.refl _ _⟩
    case round =>
     obtain ⟨j, hj, rfl, HA, hbel⟩ := hrel
     by_cases hlt : j < ps.length
     ·
      obtain ⟨p, hx⟩ : ∃ x, ps[j]? = some x := ⟨_, List.getElem?_eq_getElem hlt⟩
      rw [← hW] at HP hB0
      obtain ⟨b, o, rfl, hlb, hc1, hc2, hxs, hlo, hhi⟩ := HP.out.2.2 j p hx
      rw [← hbel.cell (p := ⟨b, o + j * 2, none⟩) hlb] at hc1
      rw [← hbel.cell (p := ⟨b, o + j * 2 + 1, none⟩) hlb] at hc2
      have hA' : Hid (okW bs.length p = true → ∀ y ∈ ps.take (j + 1), okW bs.length y = true) := devTake_all HA hx
      have hF : Hid (okW bs.length p = false → rightD bs ps = false) := rightD_write hx
      have hlt' : (j : Int) < ps.length := by omega
      have hBW := hbel.size
      have hBw : Below w.heap.size w wr := Below.tr hB0 hbel
      clear HA hx hlb HS HP hW
      by_cases hh : 0 ≤ p.1 ∧ p.1 < bs.length
      ·
       obtain ⟨hp0, hp1⟩ := hh
       cases hok : okS p.2 with
       | true =>
        have hw1 : Hid (okW bs.length p = true) := by show _ = _; unfold okW; rw [decide_eq_true hp0, decide_eq_true hp1, hok]; rfl
        go_wp2_with (go_at_call 47; refine (trimmed_any p.2 _ hxs).mono ?_; rw [hok]; rintro e w4 ⟨rfl, rfl⟩)
        go_roundw
        case rel => exact ⟨j + 1, by omega, by go_num, hA'.out hw1.out, hbel.alloc hBW _⟩
        case measure => simp [intOf]; omega
       | false =>
        have hw1 : Hid (okW bs.length p = false) := by show _ = _; unfold okW; rw [decide_eq_true hp0, decide_eq_true hp1, hok]; rfl
        go_wp2_with (go_at_call 47; refine (trimmed_any p.2 _ hxs).mono ?_; rw [hok]; rintro e w4 ⟨rfl, rfl⟩)
        go_ret
        exact ⟨ret_bool (hF.out hw1.out).symm, hBw.alloc hBw.size _⟩
      ·
       have hw1 : Hid (okW bs.length p = false) := by
        show _ = _
        rw [Bool.eq_false_iff]
        exact fun h => hh ((okW_iff _ _).1 h).1
       go_wp2
       all_goals first
        | omega
        | (go_ret; exact ⟨ret_bool (hF.out hw1.out).symm, hBw.alloc hBw.size _⟩)
     ·
      obtain rfl : j = ps.length := by omega
      rw [List.take_length] at HA
      have ht : Hid (rightD bs ps = true) := (rightD_iff bs ps).2 ⟨⟨h1, h2, h3⟩, HB.out, HA⟩
      rw [← hW] at hB0
      have hBw : Below w.heap.size w wr := Below.tr hB0 hbel
      clear HA
      go_wp2
      go_ret
      exact ⟨ret_bool ht.out.symm, hBw⟩
 ·
  have hf : Hid (rightD bs ps = false) := rightD_size hsz
  go_enter Tryz.func18, Tryz.ntmps18
  go_wp2
  all_goals first
   | (go_ret; exact ⟨ret_bool hf.out.symm, hB0⟩)
   | omega
end Go.Proofs.YtaobfgplheoefaaGreat
