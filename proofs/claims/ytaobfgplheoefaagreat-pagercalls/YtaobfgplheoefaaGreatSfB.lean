/-
  Texts laid together: SuperChoose RingPlain BitsPlain BitsMem BitsBytes BitsPack BitsUnpack DevPlain DevModel BitsRef BitsFind BitsWith BitsOnes AllocPlain AllocMem Anyheld AllocRight Anyorder AllocFree AllocNew AllocDo PagerBytes DevTrim DevBytes DevAt DevNew DevBack DevFlush DevRead LookPlain LookOrder LookFacts NodeCut LookSearch LookWay CheckPlain Turns.
-/
import Derived.Test.YtaobfgplheoefaaGreatSfA
import Derived.Lib.Strings
import Derived.Deep.Grids
import Derived.Laws.BitsAllLaws
import Derived.BigQuiet
import Derived.Lib.AppendZeros
import Derived.Test.YtaobfgplheoefaaGreatRows
import Derived.Deep.RegionHeld3
import Derived.Orders
import Derived.WalkKit
import Derived.Below
import Derived.WalkSpells
import Derived.WalkLawsBesides
import Derived.Handy
import Derived.Deep.OwnRows
import Derived.Laws.CopyOwn
import Derived.RangeFuncNested
import Derived.RangeFuncBound
import Derived.RangeFuncCalls
import Derived.RangeFuncLeaves
import Derived.Shelf.Abstract
import Derived.Shelf.RegionOpen
import Derived.OwnWalkIn
import Derived.TacticsInMore
import Derived.LoopNIn
import Derived.LoopIn
import Derived.Deep.AppendLies
import Derived.Lib.SmallJoins
import Derived.Lib.SliceRun
import Derived.Maps.RangeWalk
namespace Go.Proofs.YtaobfgplheoefaaGreat
open Go.RowKit Plain
set_option linter.unusedVariables false
def chE (t : ByteArray) : Int := if suG t = 0 then 120 else 0
theorem Best.next {xs : List ByteArray} {j : Nat} {x t : ByteArray} {i : Nat} (hx : xs[j]? = some x) (h : Best (xs.take j) t i) :
  (suG t < suG x → Best (xs.take (j + 1)) x j) ∧ (¬ suG t < suG x → Best (xs.take (j + 1)) t i) := by
 have hl : (xs.take j).length = j := by
  rw [List.length_take]
  have := (List.getElem?_eq_some_iff.1 hx).1
  omega
 have e : xs.take (j + 1) = xs.take j ++ [x] := by rw [List.take_add_one, hx]; rfl
 have := h.snoc (x := x)
 rw [← e, hl] at this
 refine ⟨fun hlt => ?_, fun hlt => ?_⟩
 ·
  rwa [if_pos hlt, if_pos hlt] at this
 ·
  rwa [if_neg hlt, if_neg hlt] at this
theorem Best.back {xs : List ByteArray} {j : Nat} {x t : ByteArray} {i : Nat} (hx : xs[j]? = some x) (h : Best (xs.drop (j + 1)) t i) :
  (suE x = 0 → suG t ≤ suG x → Best (xs.drop j) x 0) ∧ (¬ (suE x = 0 ∧ suG t ≤ suG x) → Best (xs.drop j) t (if suG t = 0 then 0 else i + 1)) := by
 have hj := (List.getElem?_eq_some_iff.1 hx).1
 have e : xs.drop j = x :: xs.drop (j + 1) := by
  rw [List.drop_eq_getElem_cons hj, (List.getElem?_eq_some_iff.1 hx).2]
 have := h.cons (x := x)
 rw [← e] at this
 refine ⟨fun h0 hle => ?_, fun hn => ?_⟩
 ·
  rwa [if_pos ⟨h0, hle⟩, if_pos ⟨h0, hle⟩] at this
 ·
  rwa [if_neg hn, if_neg hn] at this
set_option maxHeartbeats 2000000 in
theorem choose_any (a : Option Addr) (c : Nat) (xs : List ByteArray) (n : Nat) (t : ByteArray) (i : Nat) (w : World) (hn : n = xs.length) (hS : IsS w a c xs) (hbest : Best xs t i) :
  Calls Tryz.prog 32 #[.slice a n c] w fun e w' => e = .returned (.tuple #[.agg #[.int .i64 (suG t), .int .i64 (suR t), .int .i64 (suM t), .int .i64 (suZ t)], .int .i64 i, .int .i64 (chE t)]) ∧ Below w.heap.size w w' := by
 have hnl : n ≤ 9223372036854775807 := by rw [hn]; exact hS.size
 have HN : Hid (n = xs.length) := hn
 have HS : Hid (IsS w a c xs) := hS
 have HB : Hid (Best xs t i) := hbest
 clear hn hS hbest
 have c1 : ∀ x : ByteArray, x.size ≤ maxLen → ∀ W, Calls Tryz.prog 72 #[.string x] W fun e w' => e = .returned (.tuple #[.agg #[.int .i64 (suG x), .int .i64 (suR x), .int .i64 (suM x), .int .i64 (suZ x)], .int .i64 (suE x)]) ∧ Below W.heap.size W w' := fun x hx W => suGet_any x W hx
 go_enter Tryz.func32, Tryz.ntmps32
 go_wp2
 go_loopw [6, 13] (fun p v wr => ∃ (j : Nat) (t' : ByteArray) (i' : Nat), j ≤ n ∧ v = .int .i64 j ∧ p = .int .i64 i' ∧ Best (xs.take j) t' i' ∧ Box4 wr w.heap.size (.int .i64 0) (.int .i64 0) (.int .i64 0) (.int .i64 0) ∧ Box4 wr (w.heap.size + 1) (.int .i64 (suG t')) (.int .i64 (suR t')) (.int .i64 (suM t')) (.int .i64 (suZ t')) ∧ Below w.heap.size w wr) (fun _ v _ => n - (intOf v).toNat)
 case atStart =>
  obtain ⟨s0, s1, s2, s3⟩ := su_none
  refine ⟨0, ⟨#[]⟩, 0, by omega, rfl, rfl, best_nil, (box4_new _ _ _ _ _ _ rfl).alloc _, ?_, ((Below.refl _ _).alloc (Nat.le_refl _) _).alloc (by simp) _⟩
  rw [s0, s1, s2, s3]
  exact box4_new _ _ _ _ _ _ (by simp)
 case round =>
  obtain ⟨j, t', i', hj, rfl, rfl, hbj, R, N, hB⟩ := hrel
  replace hbj : Hid (Best (xs.take j) t' i') := hbj
  by_cases hlt : j < n
  ·
   obtain ⟨x, hx⟩ : ∃ x, xs[j]? = some x := ⟨_, List.getElem?_eq_getElem (by rw [← HN.out]; exact hlt)⟩
   obtain ⟨bk, o, rfl, hbk, hcell0, hxs⟩ := HS.out.2.2 j x hx
   have hcell := cell_below hB hcell0
   have c2 := c1 x hxs
   have hnx : Hid ((suG t' < suG x → Best (xs.take (j + 1)) x j) ∧ (¬ suG t' < suG x → Best (xs.take (j + 1)) t' i')) := Best.next hx hbj.out
   have hpos : Hid (¬ suE x = 0 → ¬ suG t' < suG x) := by
    show _ → _
    intro h0
    have := (suG_pos (s := t')).1
    rw [show suG x = 0 by rw [suG, if_neg h0]]
    omega
   have hlt' : (j : Int) < n := by omega
   clear hx hcell0 hbk hxs hbj
   by_cases h0 : suE x = 0
   ·
    rw [h0] at c2
    by_cases hg : suG t' < suG x
    ·
     have hnew : Hid (Best (xs.take (j + 1)) x j) := hnx.out.1 hg
     clear hnx hpos
     go_wp2_with (go_at_call 72; refine (c2 _).mono ?_; rintro e w2 ⟨rfl, hb⟩; replace R := (R.below hb).alloc (.cells #[.int .i64 (suG x), .int .i64 (suR x), .int .i64 (suM x), .int .i64 (suZ x)] 35); replace N := (N.below hb).alloc (.cells #[.int .i64 (suG x), .int .i64 (suR x), .int .i64 (suM x), .int .i64 (suZ x)] 35); have T := box4_new w2 (.int .i64 (suG x)) (.int .i64 (suR x)) (.int .i64 (suM x)) (.int .i64 (suZ x)) 35 rfl; replace hB := Below.tr hB hb; replace hB := hB.alloc hB.size (.cells #[.int .i64 (suG x), .int .i64 (suR x), .int .i64 (suM x), .int .i64 (suZ x)] 35); obtain ⟨⟨t0, t1, t2, t3⟩, -⟩ := id T; obtain ⟨⟨n0, n1, n2, n3⟩, f0, f1, f2, f3⟩ := id N; clear hb)
     go_roundw
     case rel => exact ⟨j + 1, x, j, by omega, by go_num, rfl, hnew.out, R.otherS (by omega) _ _ _ _, N.puts _ _ _ _, below_set4 hB (by omega)⟩
     case measure => simp [intOf]; omega
    ·
     have hnew : Hid (Best (xs.take (j + 1)) t' i') := hnx.out.2 hg
     clear hnx hpos
     go_wp2_with (go_at_call 72; refine (c2 _).mono ?_; rintro e w2 ⟨rfl, hb⟩; replace R := (R.below hb).alloc (.cells #[.int .i64 (suG x), .int .i64 (suR x), .int .i64 (suM x), .int .i64 (suZ x)] 35); replace N := (N.below hb).alloc (.cells #[.int .i64 (suG x), .int .i64 (suR x), .int .i64 (suM x), .int .i64 (suZ x)] 35); have T := box4_new w2 (.int .i64 (suG x)) (.int .i64 (suR x)) (.int .i64 (suM x)) (.int .i64 (suZ x)) 35 rfl; replace hB := Below.tr hB hb; replace hB := hB.alloc hB.size (.cells #[.int .i64 (suG x), .int .i64 (suR x), .int .i64 (suM x), .int .i64 (suZ x)] 35); obtain ⟨⟨t0, t1, t2, t3⟩, -⟩ := id T; obtain ⟨⟨n0, n1, n2, n3⟩, f0, f1, f2, f3⟩ := id N; clear hb)
     go_roundw
     case rel => exact ⟨j + 1, t', i', by omega, by go_num, rfl, hnew.out, R, N, hB⟩
     case measure => simp [intOf]; omega
   ·
    have hnew : Hid (Best (xs.take (j + 1)) t' i') := hnx.out.2 (hpos.out h0)
    clear hnx hpos
    have h0' : (suE x == 0) = false := by simpa using h0
    go_wp2_with (go_at_call 72; refine (c2 _).mono ?_; rintro e w2 ⟨rfl, hb⟩; replace R := (R.below hb).alloc (.cells #[.int .i64 (suG x), .int .i64 (suR x), .int .i64 (suM x), .int .i64 (suZ x)] 35); replace N := (N.below hb).alloc (.cells #[.int .i64 (suG x), .int .i64 (suR x), .int .i64 (suM x), .int .i64 (suZ x)] 35); replace hB := Below.tr hB hb; replace hB := hB.alloc hB.size (.cells #[.int .i64 (suG x), .int .i64 (suR x), .int .i64 (suM x), .int .i64 (suZ x)] 35); clear hb)
    go_roundw
    case rel => exact ⟨j + 1, t', i', by omega, by go_num, rfl, hnew.out, R, N, hB⟩
    case measure => simp [intOf]; omega
  ·
   obtain rfl : n = j := by omega
   obtain ⟨ht, hi⟩ : t' = t ∧ i' = i := by
    have := hbj.out
    rw [HN.out, List.take_length] at this
    exact this.uniq HB.out
   subst ht hi
   obtain ⟨⟨n0, n1, n2, n3⟩, -⟩ := id N
   obtain ⟨⟨r0, r1, r2, r3⟩, f0, f1, f2, f3⟩ := id R
   have hn0 : ¬ (n : Int) < n := by omega
   by_cases h0 : suG t' = 0
   ·
    obtain ⟨ht, hi⟩ := HB.out.2.1 h0
    have z : Hid (suR t' = 0 ∧ suM t' = 0 ∧ suZ t' = 0 ∧ chE t' = 120 ∧ (i' : Int) = 0) := by
     obtain ⟨s0, s1, s2, s3⟩ := su_none
     rw [chE, if_pos h0, hi]
     exact ⟨by rw [ht]; exact s1, by rw [ht]; exact s2, by rw [ht]; exact s3, rfl, rfl⟩
    clear ht hi hbj hj hlt
    rw [h0] at n0
    go_wp2
    obtain ⟨e1, e2, e3, e4, e5⟩ := z.out
    rw [e1, e2, e3, e4, e5]
    obtain ⟨⟨z0, z1, z2, z3⟩, -⟩ := R.puts (.int .i64 0) (.int .i64 0) (.int .i64 0) (.int .i64 0)
    exact bodyPost_ret (v := .tuple #[.agg #[.int .i64 0, .int .i64 0, .int .i64 0, .int .i64 0], .int .i64 0, .int .i64 120]) (by simp [results, Tryz.results32, go_sem, z0, z1, z2, z3]) rfl ⟨rfl, below_set4 hB (Nat.le_refl _)⟩
   ·
    have h0' : (suG t' == 0) = false := by simpa using h0
    have z : Hid (chE t' = 0) := by show _ = _; rw [chE, if_neg h0]
    clear hbj hj hlt
    go_wp2
    rw [z.out]
    obtain ⟨⟨z0, z1, z2, z3⟩, -⟩ := R.puts (.int .i64 (suG t')) (.int .i64 (suR t')) (.int .i64 (suM t')) (.int .i64 (suZ t'))
    exact bodyPost_ret (v := .tuple #[.agg #[.int .i64 (suG t'), .int .i64 (suR t'), .int .i64 (suM t'), .int .i64 (suZ t')], .int .i64 i', .int .i64 0]) (by simp [results, Tryz.results32, go_sem, z0, z1, z2, z3]) rfl ⟨rfl, below_set4 hB (Nat.le_refl _)⟩
end Go.Proofs.YtaobfgplheoefaaGreat
namespace Go.Proofs.YtaobfgplheoefaaGreat.Plain
open Go.RowKit
set_option linter.unusedVariables false
def rgE (s : ByteArray) (g : Int) : Int :=
 if readE s = 0 then (if readK s = 5 then (if readG s = g then (if 1 ≤ (readB s).size then (if (readB s).size ≤ 481 then (if getV (readB s) 0 1 ≤ 7 then 0 else 4) else 4) else 4) else 4) else 40) else readE s
def rgN (s : ByteArray) (g : Int) : Int := if rgE s g = 0 then getV (readB s) 0 1 else 0
def rgB (s : ByteArray) (g : Int) : ByteArray := if rgE s g = 0 then (readB s).extract 1 (readB s).size else ⟨#[]⟩
theorem rgE_ok {s : ByteArray} {g : Int} (h : rgE s g = 0) : readE s = 0 ∧ readK s = 5 ∧ readG s = g ∧ 1 ≤ (readB s).size ∧ (readB s).size ≤ 481 ∧ getV (readB s) 0 1 ≤ 7 := by
 unfold rgE at h
 split at h
 ·
  rename_i h1
  split at h
  ·
   rename_i h2
   split at h
   ·
    rename_i h3
    split at h
    ·
     rename_i h4
     split at h
     ·
      rename_i h5
      split at h
      ·
       rename_i h6; exact ⟨h1, h2, h3, h4, h5, h6⟩
      ·
       omega
     ·
      omega
    ·
     omega
   ·
    omega
  ·
   omega
 ·
  rename_i h1; exact absurd h h1
theorem rgB_size (s : ByteArray) (g : Int) : (rgB s g).size ≤ 480 := by
 unfold rgB
 split
 ·
  rename_i h
  have := rgE_ok h
  rw [ByteArray.size_extract]; omega
 ·
  exact Nat.zero_le _
def scanR (g : Int) : Nat → List ByteArray → List ByteArray
 | _, [] => []
 | i, x :: xs => if rgE x g = 0 ∧ rgN x g = i then rgB x g :: scanR g (i + 1) xs else []
def AllR (g : Int) (xs : List ByteArray) (j : Nat) : Prop := ∀ (i : Nat) x, i < j → xs[i]? = some x → rgE x g = 0 ∧ rgN x g = i
theorem scan_upto {g : Int} : ∀ (xs : List ByteArray) (i j : Nat), (∀ (k : Nat) x, k < j → xs[k]? = some x → rgE x g = 0 ∧ rgN x g = ((i + k : Nat) : Int)) → scanR g i xs = ((xs.take j).map fun x => rgB x g) ++ scanR g (i + j) (xs.drop j)
 | [], i, j, _ => by simp [scanR]
 | x :: xs, i, 0, _ => by simp
 | x :: xs, i, j + 1, h => by
  have h0 := h 0 x (by omega) rfl
  have ih := scan_upto (g := g) xs (i + 1) j (fun k y hk hy => by
   have := h (k + 1) y (by omega) (by simpa using hy)
   rw [show i + 1 + k = i + (k + 1) by omega]; exact this)
  rw [scanR, if_pos (by simpa using h0), ih, List.take_succ_cons, List.map_cons, List.drop_succ_cons, List.cons_append, show i + 1 + j = i + (j + 1) by omega]
theorem scan_stop {g : Int} {xs : List ByteArray} {j : Nat} (h : AllR g xs j) (hx : ∀ x, xs[j]? = some x → ¬ (rgE x g = 0 ∧ rgN x g = j)) : scanR g 0 xs = (xs.take j).map fun x => rgB x g := by
 rw [scan_upto xs 0 j (fun k x hk hx => by rw [Nat.zero_add]; exact h k x hk hx), Nat.zero_add]
 cases hd : xs.drop j with
 | nil => simp [scanR]
 | cons y ys =>
  have : xs[j]? = some y := by
   have := congrArg (fun l => l[0]?) hd
   simpa using this
  rw [scanR, if_neg (hx y this)]; simp
abbrev Chg := ByteArray × ByteArray × Bool
end Go.Proofs.YtaobfgplheoefaaGreat.Plain
namespace Go.Proofs.YtaobfgplheoefaaGreat.Plain
open Go.RowKit
def bn (b : Bool) : Nat := if b then 1 else 0
theorem bn_lt (b : Bool) : bn b < 2 := by cases b <;> decide
def atB (l : List Bool) (i : Nat) : Bool := l[i]?.getD false
theorem atB_past {l : List Bool} {i : Nat} (h : l.length ≤ i) : atB l i = false := by
 unfold atB; rw [List.getElem?_eq_none h]; rfl
theorem atB_some {l : List Bool} {i : Nat} {x : Bool} (h : l[i]? = some x) : atB l i = x := by unfold atB; rw [h]; rfl
def lowB (l : List Bool) (p : Nat) : Nat → Nat
 | 0 => 0
 | k + 1 => lowB l p k + 2 ^ k * bn (atB l (p + k))
theorem lowB_lt (l : List Bool) (p k : Nat) : lowB l p k < 2 ^ k := by
 induction k with
 | zero => exact Nat.zero_lt_one
 | succ k ih =>
  rw [lowB, Nat.pow_succ]
  have := bn_lt (atB l (p + k))
  have h2 : 2 ^ k * bn (atB l (p + k)) ≤ 2 ^ k * 1 := Nat.mul_le_mul_left _ (by omega)
  omega
theorem lowB_bit (l : List Bool) (p k j : Nat) (h : j < k) : lowB l p k / 2 ^ j % 2 = bn (atB l (p + j)) := by
 induction k with
 | zero => omega
 | succ k ih =>
  rw [lowB]
  by_cases e : j = k
  ·
   subst e
   rw [Nat.add_mul_div_left _ _ (Nat.two_pow_pos j), Nat.div_eq_of_lt (lowB_lt l p j), Nat.zero_add]
   exact Nat.mod_eq_of_lt (bn_lt _)
  ·
   have hj : j < k := by omega
   have e2 : 2 ^ k = 2 ^ j * (2 * 2 ^ (k - j - 1)) := by
    rw [← Nat.mul_assoc, ← Nat.pow_succ, ← Nat.pow_add]; congr 1; omega
   rw [e2, Nat.mul_assoc, Nat.add_mul_div_left _ _ (Nat.two_pow_pos j), Nat.mul_assoc, Nat.add_mul_mod_self_left]
   exact ih hj
def byteB (l : List Bool) (i : Nat) : UInt8 := UInt8.ofNat (lowB l (8 * i) 8)
theorem byteB_nat (l : List Bool) (i : Nat) : (byteB l i).toNat = lowB l (8 * i) 8 := by
 unfold byteB
 have := lowB_lt l (8 * i) 8
 rw [UInt8.toNat_ofNat']
 omega
def sizeB (n : Nat) : Nat := (n + 7) / 8
def packL (l : List Bool) : List UInt8 := (List.range (sizeB l.length)).map (byteB l)
def packS (l : List Bool) : ByteArray := ⟨(packL l).toArray⟩
theorem packS_size (l : List Bool) : (packS l).size = sizeB l.length := by
 show (packL l).length = _
 simp [packL]
def bitAt (s : ByteArray) (i : Nat) : Bool := decide ((s.data.toList[i / 8]?.getD 0).toNat / 2 ^ (i % 8) % 2 = 1)
theorem bitAt_past {s : ByteArray} {i : Nat} (h : 8 * s.size ≤ i) : bitAt s i = false := by
 unfold bitAt
 rw [List.getElem?_eq_none (by rw [size_list]; omega)]
 simp
theorem bitAt_pack (l : List Bool) (i : Nat) : bitAt (packS l) i = atB l i := by
 by_cases h : i / 8 < sizeB l.length
 ·
  unfold bitAt
  have e : (packS l).data.toList[i / 8]? = some (byteB l (i / 8)) := by
   show (packL l)[i / 8]? = _
   unfold packL
   rw [List.getElem?_map, List.getElem?_range h]; rfl
  rw [e, Option.getD_some, byteB_nat, lowB_bit _ _ _ _ (Nat.mod_lt _ (by decide)), show 8 * (i / 8) + i % 8 = i by omega]
  cases atB l i <;> rfl
 ·
  have h1 : l.length ≤ i := by unfold sizeB at h; omega
  rw [atB_past h1, bitAt_past]
  rw [packS_size]; unfold sizeB at h ⊢; omega
def unpackL (s : ByteArray) (n : Nat) : List Bool := (List.range n).map (bitAt s)
theorem unpackL_length (s : ByteArray) (n : Nat) : (unpackL s n).length = n := by simp [unpackL]
theorem unpackL_get (s : ByteArray) (n i : Nat) (h : i < n) : (unpackL s n)[i]? = some (bitAt s i) := by
 unfold unpackL; rw [List.getElem?_map, List.getElem?_range h]; rfl
theorem unpackL_at (s : ByteArray) (n i : Nat) : atB (unpackL s n) i = (decide (i < n) && bitAt s i) := by
 by_cases h : i < n
 ·
  rw [atB_some (unpackL_get s n i h), decide_eq_true h, Bool.true_and]
 ·
  rw [atB_past (by rw [unpackL_length]; omega), decide_eq_false h, Bool.false_and]
theorem unpack_pack (l : List Bool) : unpackL (packS l) l.length = l := by
 apply List.ext_getElem?
 intro i
 by_cases h : i < l.length
 ·
  rw [unpackL_get _ _ _ h, bitAt_pack]
  unfold atB
  rw [List.getElem?_eq_getElem h]; rfl
 ·
  rw [List.getElem?_eq_none (by rw [unpackL_length]; omega), List.getElem?_eq_none (by omega)]
theorem byte_bits {a b : Nat} (n : Nat) (ha : a < 2 ^ n) (hb : b < 2 ^ n) (h : ∀ k, k < n → a / 2 ^ k % 2 = b / 2 ^ k % 2) : a = b := by
 induction n generalizing a b with
 | zero => omega
 | succ n ih =>
  have h0 := h 0 (by omega)
  simp at h0
  have hp : 2 ^ (n + 1) = 2 * 2 ^ n := by rw [Nat.pow_succ]; omega
  have hd : a / 2 = b / 2 := by
   apply ih (by omega) (by omega)
   intro k hk
   have := h (k + 1) (by omega)
   rwa [Nat.pow_succ, Nat.mul_comm, ← Nat.div_div_eq_div_mul, ← Nat.div_div_eq_div_mul] at this
  omega
theorem bitAt_byte (s : ByteArray) (j k : Nat) (hk : k < 8) : bitAt s (8 * j + k) = decide ((s.data.toList[j]?.getD 0).toNat / 2 ^ k % 2 = 1) := by
 unfold bitAt
 rw [show (8 * j + k) / 8 = j by omega, show (8 * j + k) % 8 = k by omega]
theorem bits_ext {s t : ByteArray} (hz : s.size = t.size) (h : ∀ i, i < 8 * s.size → bitAt s i = bitAt t i) : s = t := by
 apply bytes_ext
 apply List.ext_getElem?
 intro j
 by_cases hj : j < s.size
 ·
  rw [List.getElem?_eq_getElem (by rw [size_list]; omega), List.getElem?_eq_getElem (by rw [size_list]; omega), Option.some_inj]
  apply UInt8.toNat_inj.1
  apply byte_bits 8 (UInt8.toNat_lt _) (UInt8.toNat_lt _)
  intro k hk
  have hb := h (8 * j + k) (by omega)
  rw [bitAt_byte _ _ _ hk, bitAt_byte _ _ _ hk, List.getElem?_eq_getElem (by rw [size_list]; omega), List.getElem?_eq_getElem (by rw [size_list]; omega), Option.getD_some, Option.getD_some, decide_eq_decide] at hb
  have m1 := Nat.mod_lt ((s.data.toList[j]'(by rw [size_list]; omega)).toNat / 2 ^ k) (by decide : 2 > 0)
  have m2 := Nat.mod_lt ((t.data.toList[j]'(by rw [size_list]; omega)).toNat / 2 ^ k) (by decide : 2 > 0)
  omega
 ·
  rw [List.getElem?_eq_none (by rw [size_list]; omega), List.getElem?_eq_none (by rw [size_list]; omega)]
theorem pack_unpack (s : ByteArray) (n : Nat) : packS (unpackL s n) = s ↔ s.size = sizeB n ∧ ∀ i, n ≤ i → bitAt s i = false := by
 constructor
 ·
  intro h
  refine ⟨by rw [← h, packS_size, unpackL_length], fun i hi => ?_⟩
  rw [← h, bitAt_pack, atB_past (by rw [unpackL_length]; omega)]
 ·
  rintro ⟨hz, hb⟩
  apply bits_ext
  ·
   rw [packS_size, unpackL_length, hz]
  ·
   intro i _
   rw [bitAt_pack, unpackL_at]
   by_cases h : i < n
   ·
    rw [decide_eq_true h, Bool.true_and]
   ·
    rw [hb i (by omega), Bool.and_false]
def unE (s : ByteArray) (n : Int) : Int :=
 if 0 ≤ n ∧ n ≤ 2048 then (if (s.size : Int) < sizeB n.toNat then 3 else if packS (unpackL s n.toNat) = s then 0 else 4) else 1
def unL (s : ByteArray) (n : Int) : List Bool := if unE s n = 0 then unpackL s n.toNat else []
def longest : List (List Bool) → Nat
 | [] => 0
 | l :: ls => max l.length (longest ls)
theorem longest_le {ls : List (List Bool)} {l : List Bool} (h : l ∈ ls) : l.length ≤ longest ls := by
 induction ls with
 | nil => cases h
 | cons x xs ih =>
  rw [longest]
  rcases List.mem_cons.1 h with rfl | h
  ·
   omega
  ·
   have := ih h; omega
theorem longest_append (xs ys : List (List Bool)) : longest (xs ++ ys) = max (longest xs) (longest ys) := by
 induction xs with
 | nil => simp [longest]
 | cons x xs ih => rw [List.cons_append, longest, longest, ih]; omega
def howB (ls : List (List Bool)) (i : Nat) : Nat := ls.countP (fun l => atB l i)
theorem howB_all {ls : List (List Bool)} {i : Nat} : howB ls i = ls.length ↔ ∀ l ∈ ls, atB l i = true := List.countP_eq_length
theorem howB_none {ls : List (List Bool)} {i : Nat} : howB ls i = 0 ↔ ∀ l ∈ ls, ¬ atB l i = true := by
 unfold howB; rw [List.countP_eq_zero]
def countN (ls : List (List Bool)) : Nat → Nat
 | 0 => 0
 | n + 1 => countN ls n + bn (decide (howB ls n = ls.length))
def countB (ls : List (List Bool)) : Nat := countN ls (longest ls)
theorem countN_past {ls : List (List Bool)} {l : List Bool} (hl : l ∈ ls) (n : Nat) (h : l.length ≤ n) : countN ls n = countN ls l.length := by
 induction n with
 | zero => congr 1; omega
 | succ n ih =>
  by_cases e : l.length = n + 1
  ·
   rw [e]
  ·
   rw [countN, ih (by omega), decide_eq_false, bn]
   ·
    rfl
   ·
    rw [howB_all]
    intro hh
    have := hh l hl
    rw [atB_past (by omega)] at this
    cases this
def firstN (ls : List (List Bool)) (i : Nat) : Nat → Int
 | 0 => -1
 | n + 1 => if howB ls i = 0 then i else firstN ls (i + 1) n
def firstB (fr : Int) (ls : List (List Bool)) : Int := firstN ls fr.toNat (longest ls - fr.toNat)
theorem firstN_spec (ls : List (List Bool)) (i n : Nat) :
  (firstN ls i n = -1 ∧ ∀ j, i ≤ j → j < i + n → howB ls j ≠ 0) ∨
  (∃ p : Nat, firstN ls i n = p ∧ i ≤ p ∧ p < i + n ∧ howB ls p = 0 ∧ ∀ j, i ≤ j → j < p → howB ls j ≠ 0) := by
 induction n generalizing i with
 | zero => exact .inl ⟨rfl, fun j h1 h2 => by omega⟩
 | succ n ih =>
  rw [firstN]
  by_cases h : howB ls i = 0
  ·
   rw [if_pos h]
   exact .inr ⟨i, rfl, Nat.le_refl _, by omega, h, fun j h1 h2 => by omega⟩
  ·
   rw [if_neg h]
   rcases ih (i + 1) with ⟨e, hn⟩ | ⟨p, e, h1, h2, h3, h4⟩
   ·
    refine .inl ⟨e, fun j a b => ?_⟩
    by_cases hj : j = i
    ·
     subst hj; exact h
    ·
     exact hn j (by omega) (by omega)
   ·
    refine .inr ⟨p, e, by omega, by omega, h3, fun j a b => ?_⟩
    by_cases hj : j = i
    ·
     subst hj; exact h
    ·
     exact h4 j (by omega) b
theorem firstB_spec (fr : Int) (ls : List (List Bool)) :
  (firstB fr ls = -1 ∧ ∀ j : Nat, fr ≤ j → j < longest ls → howB ls j ≠ 0) ∨
  (∃ p : Nat, firstB fr ls = p ∧ fr ≤ p ∧ p < longest ls ∧ howB ls p = 0 ∧ ∀ j : Nat, fr ≤ j → j < p → howB ls j ≠ 0) := by
 unfold firstB
 rcases firstN_spec ls fr.toNat (longest ls - fr.toNat) with ⟨e, hn⟩ | ⟨p, e, h1, h2, h3, h4⟩
 ·
  exact .inl ⟨e, fun j a b => hn j (by omega) (by omega)⟩
 ·
  exact .inr ⟨p, e, by omega, by omega, h3, fun j a b => h4 j (by omega) b⟩
theorem firstB_none {fr : Int} {ls : List (List Bool)} (h : ∀ j : Nat, fr ≤ j → j < longest ls → howB ls j ≠ 0) : firstB fr ls = -1 := by
 rcases firstB_spec fr ls with ⟨e, _⟩ | ⟨p, _, h1, h2, h3, _⟩
 ·
  exact e
 ·
  exact absurd h3 (h p h1 h2)
theorem firstB_is {fr : Int} {ls : List (List Bool)} {p : Nat} (h1 : fr ≤ p) (h2 : p < longest ls) (h3 : howB ls p = 0) (h4 : ∀ j : Nat, fr ≤ j → j < p → howB ls j ≠ 0) : firstB fr ls = p := by
 rcases firstB_spec fr ls with ⟨_, hn⟩ | ⟨q, e, g1, g2, g3, g4⟩
 ·
  exact absurd h3 (hn p h1 h2)
 ·
  rw [e]
  rcases Nat.lt_trichotomy p q with h | h | h
  ·
   exact absurd h3 (g4 p h1 h)
  ·
   rw [h]
  ·
   exact absurd g3 (h4 q g1 h)
def placesOk (l : List Bool) (ps : List Int) : Bool := ps.all fun p => decide (0 ≤ p) && decide (p < l.length)
def setB (l : List Bool) (is : Bool) : List Int → List Bool
 | [] => l
 | p :: ps => setB (l.set p.toNat is) is ps
def withE (l : List Bool) (ps : List Int) : Int := if placesOk l ps then 0 else 1
def withL (l : List Bool) (is : Bool) (ps : List Int) : List Bool := if placesOk l ps then setB l is ps else []
theorem setB_length (l : List Bool) (is : Bool) (ps : List Int) : (setB l is ps).length = l.length := by
 induction ps generalizing l with
 | nil => rfl
 | cons p ps ih => rw [setB, ih, List.length_set]
theorem setB_append (l : List Bool) (is : Bool) (ps qs : List Int) : setB l is (ps ++ qs) = setB (setB l is ps) is qs := by
 induction ps generalizing l with
 | nil => rfl
 | cons p ps ih => rw [List.cons_append, setB, setB, ih]
end Go.Proofs.YtaobfgplheoefaaGreat.Plain
namespace Go.Proofs.YtaobfgplheoefaaGreat
open Go.RowKit Plain Go.ChangeShapes Go.WideShapes
set_option linter.unusedVariables false
def IsB (w : World) (a : Option Addr) (c : Nat) (l : List Bool) : Prop :=
 l.length ≤ c ∧ c ≤ maxLen ∧ ∀ j x, l[j]? = some x → ∃ b o, a = some ⟨b, o, none⟩ ∧ b < w.heap.size ∧ w.cell? ⟨b, o + j, none⟩ = some (.bool x)
theorem IsB_nil (w : World) : IsB w none 0 [] := ⟨Nat.le_refl _, Nat.zero_le _, fun j x hx => by simp at hx⟩
theorem IsB.below {w w' : World} {a : Option Addr} {c : Nat} {l : List Bool} (h : IsB w a c l) (hb : Below w.heap.size w w') : IsB w' a c l := by
 refine ⟨h.1, h.2.1, fun j x hx => ?_⟩
 obtain ⟨b, o, ha, hlt, hc⟩ := h.2.2 j x hx
 exact ⟨b, o, ha, Nat.lt_of_lt_of_le hlt hb.size, by rw [hb.cell (p := ⟨b, o + j, none⟩) hlt]; exact hc⟩
theorem IsB.take {w : World} {a : Option Addr} {c : Nat} {l : List Bool} (h : IsB w a c l) (n : Nat) : IsB w a c (l.take n) := by
 refine ⟨by rw [List.length_take]; have := h.1; omega, h.2.1, fun j x hx => h.2.2 j x ?_⟩
 rw [List.getElem?_take] at hx
 split at hx
 ·
  exact hx
 ·
  cases hx
theorem IsB.some {w : World} {a : Option Addr} {c : Nat} {l : List Bool} (h : IsB w a c l) (h0 : 0 < l.length) : ∃ b o, a = .some ⟨b, o, none⟩ ∧ b < w.heap.size := by
 obtain ⟨b, o, ha, hl, _⟩ := h.2.2 0 l[0] (List.getElem?_eq_getElem h0)
 exact ⟨b, o, ha, hl⟩
theorem IsB.at {w : World} {b o c : Nat} {l : List Bool} (h : IsB w (.some ⟨b, o, none⟩) c l) {j : Nat} {x : Bool} (hx : l[j]? = .some x) : w.cell? ⟨b, o + j, none⟩ = .some (.bool x) := by
 obtain ⟨b', o', he, _, hc⟩ := h.2.2 j x hx
 cases he
 exact hc
def RowT (w : World) (g cap : Nat) (l : List Bool) : Prop :=
 ∃ cur : Array Value, w.heap[g]? = some (.cells cur 4 (0, 0)) ∧ cur.toList.take l.length = l.map Value.bool ∧ l.length ≤ cap ∧ cap ≤ maxLen ∧ cur.size = cap
theorem RowT.lt {w : World} {g cap : Nat} {l : List Bool} (h : RowT w g cap l) : g < w.heap.size := by
 obtain ⟨cur, hg, _⟩ := h
 exact (Array.getElem?_eq_some_iff.1 hg).1
theorem RowT.below {w w' : World} {g cap : Nat} {l : List Bool} (h : RowT w g cap l) (hb : Below w.heap.size w w') : RowT w' g cap l := by
 have hl := h.lt
 obtain ⟨cur, hg, hr⟩ := h
 exact ⟨cur, by rw [hb.block g hl]; exact hg, hr⟩
theorem RowT.cell {w : World} {g cap : Nat} {l : List Bool} (h : RowT w g cap l) {j : Nat} {x : Bool} (hx : l[j]? = some x) : w.cell? ⟨g, j, none⟩ = some (.bool x) ∧ w.frozen? ⟨g, j, none⟩ = false := by
 obtain ⟨cur, hg, ht, hl, _, hs⟩ := h
 have hj := (List.getElem?_eq_some_iff.1 hx).1
 have hc : cur[j]? = some (.bool x) := by
  rw [← Array.getElem?_toList]
  have : (cur.toList.take l.length)[j]? = some (.bool x) := by rw [ht, List.getElem?_map, hx]; rfl
  rwa [List.getElem?_take_of_lt hj] at this
 exact ⟨by rw [Joins.cell_of_block hg]; exact hc, Joins.unfrozen_of_block hg j⟩
theorem RowT.set {w : World} {g cap : Nat} {l : List Bool} (h : RowT w g cap l) (j : Nat) (x : Bool) : RowT (w.setCell ⟨g, j, none⟩ (.bool x)) g cap (l.set j x) := by
 obtain ⟨cur, hg, ht, hl, hm, hs⟩ := h
 refine ⟨_, Joins.block_setCell hg _, ?_, by rw [List.length_set]; exact hl, hm, by rw [Array.size_setIfInBounds]; exact hs⟩
 rw [List.length_set, Array.toList_setIfInBounds, List.take_set, ht, List.map_set]
theorem RowT.isB {w : World} {g cap : Nat} {l : List Bool} (h : RowT w g cap l) : IsB w (some ⟨g, 0, none⟩) cap l := by
 have hl := h.lt
 have hc := h
 obtain ⟨cur, hg, ht, h1, h2, hs⟩ := h
 exact ⟨h1, h2, fun j x hx => ⟨g, 0, rfl, hl, by rw [Nat.zero_add]; exact (hc.cell hx).1⟩⟩
theorem RowT.new (W : World) (n : Nat) {Z : Array Value} (hZ : Z = (List.replicate n (Value.bool false)).toArray) {g : Nat} (hg : g = W.heap.size) (hn : n ≤ maxLen) : RowT (W.alloc (.cells Z 4)) g n (List.replicate n false) := by
 subst hg hZ
 refine ⟨_, heap_new W _, ?_, by simp, hn, by simp⟩
 simp
theorem ownsRow_T {w : World} {base : Nat} {v : Value} {l : List Bool} (h : w.ownsRow base 4 1 v l.length (l.map Value.bool)) : (v = .slice none 0 0 ∧ l = []) ∨ ∃ g cap, v = .slice (some ⟨g, 0, none⟩) l.length cap ∧ base ≤ g ∧ RowT w g cap l := by
 rcases h.2 with ⟨h1, h2⟩ | ⟨g, cap, cur, rfl, hg, hcur, hnc, hcm, hsz, htk⟩
 ·
  exact .inl ⟨h1, List.length_eq_zero_iff.1 h2⟩
 ·
  exact .inr ⟨g, cap, rfl, hg, cur, hcur, by simpa using htk, by omega, hcm, by omega⟩
def rowsOf (ds : List (Option Addr × Nat × List Bool)) : List (List Bool) := ds.map (·.2.2)
theorem rowsOf_get {ds : List (Option Addr × Nat × List Bool)} {j : Nat} {d : (Option Addr × Nat × List Bool)} (h : ds[j]? = some d) : (rowsOf ds)[j]? = some d.2.2 := by unfold rowsOf; rw [List.getElem?_map, h]; rfl
def IsL (w : World) (a : Option Addr) (c : Nat) (ds : List (Option Addr × Nat × List Bool)) : Prop :=
 ds.length ≤ c ∧ c ≤ maxLen ∧ ∀ j d, ds[j]? = some d → IsB w d.1 d.2.1 d.2.2 ∧ ∃ b o, a = some ⟨b, o, none⟩ ∧ b < w.heap.size ∧ w.cell? ⟨b, o + j, none⟩ = some (.slice d.1 d.2.2.length d.2.1)
theorem IsL.rows_le {w : World} {a : Option Addr} {c : Nat} {ds : List (Option Addr × Nat × List Bool)} (h : IsL w a c ds) : ∀ l ∈ rowsOf ds, l.length ≤ maxLen := by
 intro l hl
 obtain ⟨d, hd, rfl⟩ := List.mem_map.1 hl
 obtain ⟨j, hj⟩ := List.getElem?_of_mem hd
 have := (h.2.2 j d hj).1
 exact Nat.le_trans this.1 this.2.1
theorem longest_bound {ls : List (List Bool)} {n : Nat} (h : ∀ l ∈ ls, l.length ≤ n) : longest ls ≤ n := by
 induction ls with
 | nil => exact Nat.zero_le _
 | cons x xs ih =>
  rw [longest]
  have := h x (by simp)
  have := ih fun l hl => h l (by simp [hl])
  omega
end Go.Proofs.YtaobfgplheoefaaGreat
namespace Go.Proofs.YtaobfgplheoefaaGreat
open Go.RowKit Plain
set_option linter.unusedVariables false
theorem atB_take (l : List Bool) (j i : Nat) : atB (l.take j) i = (decide (i < j) && atB l i) := by
 unfold atB
 rw [List.getElem?_take]
 by_cases h : i < j
 ·
  rw [if_pos h, decide_eq_true h, Bool.true_and]
 ·
  rw [if_neg h, decide_eq_false h, Bool.false_and]; rfl
theorem lowB_congr {l m : List Bool} {p : Nat} (n : Nat) (h : ∀ k, k < n → atB l (p + k) = atB m (p + k)) : lowB l p n = lowB m p n := by
 induction n with
 | zero => rfl
 | succ n ih => rw [lowB, lowB, ih fun k hk => h k (by omega), h n (by omega)]
theorem lowB_nil (p n : Nat) : lowB [] p n = 0 := by
 induction n with
 | zero => rfl
 | succ n ih => rw [lowB, ih, atB_past (Nat.zero_le _)]; simp [bn]
def packN (l : List Bool) (j : Nat) : List UInt8 := (List.range (sizeB l.length)).map (byteB (l.take j))
theorem packN_length (l : List Bool) (j : Nat) : (packN l j).length = sizeB l.length := by simp [packN]
theorem packN_get (l : List Bool) (j i : Nat) (h : i < sizeB l.length) : (packN l j)[i]? = some (byteB (l.take j) i) := by
 unfold packN; rw [List.getElem?_map, List.getElem?_range h]; rfl
theorem packN_zero (l : List Bool) : packN l 0 = List.replicate (sizeB l.length) 0 := by
 apply List.ext_getElem?
 intro i
 by_cases h : i < sizeB l.length
 ·
  rw [packN_get _ _ _ h, List.getElem?_replicate, if_pos h]
  unfold byteB
  rw [List.take_zero, lowB_nil]; rfl
 ·
  rw [List.getElem?_eq_none (by rw [packN_length]; omega), List.getElem?_eq_none (by simp; omega)]
theorem packN_full (l : List Bool) : packN l l.length = packL l := by unfold packN packL; rw [List.take_length]
theorem packN_no {l : List Bool} {j : Nat} (h : atB l j = false) : packN l (j + 1) = packN l j := by
 unfold packN
 apply List.map_congr_left
 intro i _
 unfold byteB
 congr 1
 apply lowB_congr
 intro k _
 rw [atB_take, atB_take]
 by_cases e : 8 * i + k = j
 ·
  rw [e, h, Bool.and_false, Bool.and_false]
 ·
  congr 1
  rw [decide_eq_decide]; omega
theorem bit_test (a k : Nat) : a / 2 ^ k % 2 = bn (a.testBit k) := by
 rw [Nat.testBit_eq_decide_div_mod_eq]
 unfold bn
 have := Nat.mod_lt (a / 2 ^ k) (by decide : 2 > 0)
 split
 ·
  rename_i h; simpa using h
 ·
  rename_i h; simp at h; omega
theorem packN_yes {l : List Bool} {j : Nat} (h : atB l j = true) (x : UInt8) (hx : (packN l j)[j / 8]? = some x) : packN l (j + 1) = (packN l j).set (j / 8) (x ||| UInt8.ofNat (2 ^ (j % 8))) := by
 have hj : j < l.length := by
  refine Nat.lt_of_not_le fun hn => ?_
  rw [atB_past hn] at h; cases h
 have hz : j / 8 < sizeB l.length := by unfold sizeB; omega
 rw [packN_get _ _ _ hz] at hx
 cases hx
 apply List.ext_getElem?
 intro i
 by_cases hi : i < sizeB l.length
 ·
  rw [packN_get _ _ _ hi]
  by_cases e : j / 8 = i
  ·
   subst e
   rw [List.getElem?_set_self (by rw [packN_length]; exact hz), Option.some_inj]
   apply UInt8.toNat_inj.1
   have h8 : j % 8 < 8 := Nat.mod_lt _ (by decide)
   have hp : 2 ^ (j % 8) < 2 ^ 8 := Nat.pow_lt_pow_right (by decide) h8
   rw [UInt8.toNat_or, byteB_nat, byteB_nat, UInt8.toNat_ofNat', Nat.mod_eq_of_lt hp]
   refine byte_bits 8 (lowB_lt _ _ _) (Nat.or_lt_two_pow (lowB_lt _ _ _) hp) fun k hk => ?_
   rw [lowB_bit _ _ _ _ hk, bit_test, Nat.testBit_or, Nat.testBit_two_pow, Nat.testBit_eq_decide_div_mod_eq, lowB_bit _ _ _ _ hk, atB_take, atB_take]
   by_cases e : 8 * (j / 8) + k = j
   ·
    rw [e, h, show decide (j % 8 = k) = true from decide_eq_true (by omega)]
    simp
   ·
    rw [show decide (j % 8 = k) = false from decide_eq_false (by omega), Bool.or_false]
    rw [show decide (8 * (j / 8) + k < j + 1) = decide (8 * (j / 8) + k < j) from by rw [decide_eq_decide]; omega]
    cases (decide (8 * (j / 8) + k < j) && atB l (8 * (j / 8) + k)) <;> rfl
  ·
   rw [List.getElem?_set_ne e, packN_get _ _ _ hi, Option.some_inj]
   unfold byteB
   congr 1
   apply lowB_congr
   intro k hk
   rw [atB_take, atB_take]
   congr 1
   rw [decide_eq_decide]; omega
 ·
  rw [List.getElem?_eq_none (by rw [packN_length]; omega), List.getElem?_eq_none (by rw [List.length_set, packN_length]; omega)]
theorem or_bit (x : UInt8) (k : Nat) : (Value.int .u8 (bits .or .u8 (x.toNat : Int) (2 ^ (k % 8) % 256))) = cellOf (x ||| UInt8.ofNat (2 ^ (k % 8))) := by
 have h8 : k % 8 < 8 := Nat.mod_lt _ (by decide)
 have hp : 2 ^ (k % 8) < 2 ^ 8 := Nat.pow_lt_pow_right (by decide) h8
 have e : ((2 : Int) ^ (k % 8) % 256) = ((2 ^ (k % 8) % 256 : Nat) : Int) := by simp
 unfold cellOf
 rw [e, u8_or_nat _ _ x.toNat_lt (by omega), UInt8.toNat_or, UInt8.toNat_ofNat']
theorem bitAt_get {s : ByteArray} {i : Nat} (h : i / 8 < s.size) : bitAt s i = decide (s[i / 8].toNat / 2 ^ (i % 8) % 2 = 1) := by
 unfold bitAt
 rw [List.getElem?_eq_getElem (show i / 8 < s.data.toList.length from h)]
 rfl
theorem and_bit {s : ByteArray} {i : Nat} (h : i / 8 < s.size) : (bits .and .u8 ((s[i / 8].toNat : Int) / 2 ^ (i % 8)) 1 == 1) = bitAt s i := by
 have e : ((s[i / 8].toNat : Int) / 2 ^ (i % 8)) = ((s[i / 8].toNat / 2 ^ (i % 8) : Nat) : Int) := by
  rw [Int.natCast_ediv]; simp
 have hl : s[i / 8].toNat / 2 ^ (i % 8) < 256 := Nat.lt_of_le_of_lt (Nat.div_le_self _ _) (UInt8.toNat_lt _)
 rw [e, show (1 : Int) = ((1 : Nat) : Int) from rfl, u8_and_nat _ _ hl (by decide), bitAt_get h]
 rw [Nat.and_one_is_mod, Bool.eq_iff_iff, beq_iff_eq, decide_eq_true_eq]
 omega
def RowY (w : World) (g : Nat) (l : List UInt8) : Prop := w.heap[g]? = some (.cells ((l.map cellOf).toArray) 5 (0, 0))
theorem RowY.cell {w : World} {g : Nat} {l : List UInt8} (h : RowY w g l) {j : Nat} {x : UInt8} (hx : l[j]? = some x) : w.cell? ⟨g, j, none⟩ = some (cellOf x) ∧ w.frozen? ⟨g, j, none⟩ = false := by
 refine ⟨?_, Joins.unfrozen_of_block h j⟩
 rw [Joins.cell_of_block h]
 simp [hx]
theorem RowY.below {w w' : World} {g : Nat} {l : List UInt8} (h : RowY w g l) (hb : Below w.heap.size w w') : RowY w' g l := by
 unfold RowY at h ⊢
 rw [hb.block g (Array.getElem?_eq_some_iff.1 h).1]
 exact h
theorem RowY.set {w : World} {g : Nat} {l : List UInt8} (h : RowY w g l) (j : Nat) (x : UInt8) : RowY (w.setCell ⟨g, j, none⟩ (cellOf x)) g (l.set j x) := by
 have := Joins.block_setCell h (i := j) (cellOf x)
 unfold RowY
 rw [this]
 congr 2
 rw [List.map_set]
 simp
theorem RowY.new (W : World) (n : Nat) {Z : Array Value} (hZ : Z = (List.replicate n (Value.int .u8 0)).toArray) {g : Nat} (hg : g = W.heap.size) : RowY (W.alloc (.cells Z 5)) g (List.replicate n 0) := by
 subst hg hZ
 unfold RowY
 rw [List.map_replicate]
 exact heap_new W _
theorem RowY.conv {w : World} {g : Nat} {l : List UInt8} (h : RowY w g l) (m cap : Nat) (hm : l.length = m) :
  (convert 116 9 (.slice (some ⟨g, 0, none⟩) m cap)).run Tryz.prog w = .ok (.string ⟨l.toArray⟩) w := by
 subst hm
 refine run_convert_bytes_back (P := Tryz.prog) _ 116 9 5 ⟨g, 0, none⟩ cap l Tryz.underlying116 Tryz.underlying5 Tryz.underlying9 fun j hj => ?_
 rw [at_add, Nat.zero_add]
 exact (h.cell (List.getElem?_eq_getElem hj)).1
set_option maxHeartbeats 400000 in
theorem bytesFor_any (n : Nat) (w : World) (hn : n ≤ 4611686018427387904) :
  Calls Tryz.prog 116 #[.int .i64 n] w fun e w' => e = .returned (.int .i64 (sizeB n)) ∧ w = w' := by
 have e : Hid ((((n : Int) + 8 - 1).tdiv 8) = (sizeB n : Int)) := by
  show _ = _
  rw [Int.tdiv_eq_ediv_of_nonneg (by omega)]; unfold sizeB; omega
 go_enter Tryz.func116, Tryz.ntmps116
 go_wp2
 go_ret
 refine ⟨ret_int ?_, rfl⟩
 have := e.out
 first | exact this | (unfold sizeB; omega)
set_option maxHeartbeats 400000 in
theorem bit_any (s : ByteArray) (i : Nat) (w : World) (hs : s.size ≤ maxLen) (hi : i / 8 < s.size) (hn : i ≤ 4611686018427387904) :
  Calls Tryz.prog 127 #[.string s, .int .i64 i] w fun e w' => e = .returned (.bool (bitAt s i)) ∧ w = w' := by
 have hb := and_bit hi
 unfold maxLen at hs
 generalize bitAt s i = q at hb ⊢
 go_enter Tryz.func127, Tryz.ntmps127
 go_wp2
 go_ret
 exact ⟨rfl, rfl⟩
def far (s : ByteArray) (n : Nat) : Bool := (List.range (8 * s.size)).any fun i => decide (n ≤ i) && bitAt s i
theorem far_no {s : ByteArray} {n : Nat} (h : ∀ i, n ≤ i → i < 8 * s.size → bitAt s i = false) : far s n = false := by
 unfold far
 rw [List.any_eq_false]
 intro i hi
 have hi' := List.mem_range.1 hi
 by_cases hn : n ≤ i
 ·
  rw [h i hn hi']; simp
 ·
  simp [hn]
theorem far_yes {s : ByteArray} {n i : Nat} (h1 : n ≤ i) (h2 : i < 8 * s.size) (h : bitAt s i = true) : far s n = true := by
 unfold far
 rw [List.any_eq_true]
 exact ⟨i, List.mem_range.2 h2, by simp [h1, h]⟩
theorem far_iff (s : ByteArray) (n : Nat) : far s n = false ↔ ∀ i, n ≤ i → bitAt s i = false := by
 constructor
 ·
  intro h i hi
  by_cases h2 : i < 8 * s.size
  ·
   cases hb : bitAt s i with
   | false => rfl
   | true => rw [far_yes hi h2 hb] at h; cases h
  ·
   exact bitAt_past (by omega)
 ·
  intro h; exact far_no fun i hi _ => h i hi
set_option maxHeartbeats 1000000 in
theorem hasBitFrom_any (s : ByteArray) (n : Nat) (w : World) (hs : s.size ≤ 4096) (hn : n ≤ 4096) :
  Calls Tryz.prog 126 #[.string s, .int .i64 n] w fun e w' => e = .returned (.bool (far s n)) ∧ w = w' := by
 go_enter Tryz.func126, Tryz.ntmps126
 go_wp2
 go_loopw [5] (fun v wr => ∃ i : Nat, n ≤ i ∧ i ≤ 40960 ∧ v = .int .i64 i ∧ (∀ j, n ≤ j → j < i → bitAt s j = false) ∧ w = wr) (fun v _ => 8 * s.size - (intOf v).toNat)
 case atStart => exact ⟨n, by omega, by omega, rfl, fun j h1 h2 => by omega, by trivial⟩
 case round =>
  obtain ⟨i, hni, hi, rfl, hno, rfl⟩ := hrel
  have HN : Hid (∀ j, n ≤ j → j < i → bitAt s j = false) := hno
  clear hno
  by_cases hlt : i < 8 * s.size
  ·
   have hlt' : (i : Int) < 8 * (s.size : Int) := by omega
   obtain ⟨q, hq⟩ : ∃ q, Hid (bitAt s i = q) := ⟨_, rfl⟩
   have cb : ∀ W, Calls Tryz.prog 127 #[.string s, .int .i64 i] W fun e w' => e = .returned (.bool q) ∧ W = w' := by
    intro W; rw [← hq.out]; exact bit_any s i W (by unfold maxLen; omega) (by omega) (by omega)
   cases q with
   | true =>
    go_wp2_with (go_at_call 127; refine (cb _).mono ?_; rintro e w' ⟨rfl, rfl⟩)
    go_ret
    exact ⟨ret_bool (far_yes hni hlt hq.out).symm, rfl⟩
   | false =>
    go_wp2_with (go_at_call 127; refine (cb _).mono ?_; rintro e w' ⟨rfl, rfl⟩)
    go_roundw
    case rel =>
     refine ⟨i + 1, by omega, by omega, by go_num, fun j h1 h2 => ?_, by trivial⟩
     by_cases e : j = i
     ·
      rw [e]; exact hq.out
     ·
      exact HN.out j h1 (by omega)
    case measure => simp [intOf]; omega
  ·
   have hlt' : ¬ (i : Int) < 8 * (s.size : Int) := by omega
   go_wp2
   go_ret
   exact ⟨ret_bool (far_no fun j h1 h2 => HN.out j h1 (by omega)).symm, rfl⟩
set_option maxHeartbeats 1000000 in
theorem pack_any (a : Option Addr) (c : Nat) (l : List Bool) (w : World) (hB : IsB w a c l) (hl : l.length ≤ 4096) :
  Calls Tryz.prog 67 #[.slice a l.length c] w fun e w' => e = .returned (.string (packS l)) ∧ Below w.heap.size w w' := by
 obtain ⟨n, hn⟩ : ∃ n, n = l.length := ⟨_, rfl⟩
 obtain ⟨k, hk, hkb⟩ : ∃ k, Hid (k = sizeB n) ∧ k ≤ 4096 := ⟨_, rfl, by unfold sizeB; omega⟩
 obtain ⟨Z, hmk, hZ⟩ : ∃ Z : Array Value, (∀ W : World, (Instr.makeSlice 116 (.int .i64 k) (.int .i64 k)).run Tryz.prog W = .ok (.slice (some ⟨W.heap.size, 0, none⟩) k k) (W.alloc (.cells Z 5))) ∧ Hid (Z = (List.replicate k (Value.int .u8 0)).toArray) :=
  ⟨madeCells #[.int .u8 0] k, fun W => run_make_row' (P := Tryz.prog) 116 5 (.int .u8 0) 1 Tryz.underlying116 Tryz.info5 rfl .i64 .i64 k (by omega) (by omega) W, made_one _ k⟩
 have cb : ∀ W, Calls Tryz.prog 116 #[.int .i64 n] W fun e w' => e = .returned (.int .i64 k) ∧ W = w' := by
  intro W; rw [hk.out]; exact bytesFor_any n W (by omega)
 have HB : Hid (IsB w a c l) := hB
 have HR : Hid (RowY (w.alloc (.cells Z 5)) w.heap.size (packN l 0)) := by
  show RowY _ _ _
  rw [packN_zero, ← hn, ← hk.out]
  exact RowY.new w k hZ.out rfl
 have HL : Hid (∀ j, (packN l j).length = k) := fun j => by rw [packN_length, ← hn]; exact hk.out.symm
 have HE : Hid (n = l.length) := hn
 have hnb : n ≤ 4096 := by omega
 rw [← hn]
 clear hB hn hl
 go_enter Tryz.func67, Tryz.ntmps67
 go_wp2_with (go_at_call 116; refine (cb _).mono ?_; rintro e w' ⟨rfl, rfl⟩)
 go_loopw [11] (fun v wr => ∃ j : Nat, j ≤ n ∧ v = .int .i64 j ∧ RowY wr w.heap.size (packN l j) ∧ Below w.heap.size w wr) (fun v _ => n - (intOf v).toNat)
 case atStart => exact ⟨0, by omega, rfl, HR.out, (Below.refl _ _).alloc (Nat.le_refl _) _⟩
 case round =>
  obtain ⟨j, hj, rfl, hrow, hbel⟩ := hrel
  have HW : Hid (RowY wr w.heap.size (packN l j)) := hrow
  clear hrow
  by_cases hlt : j < n
  ·
   have hlt' : (j : Int) < n := by omega
   have hjl : j < l.length := by rw [← HE.out]; exact hlt
   obtain ⟨q, hq⟩ : ∃ q, Hid (l[j]? = some q) := ⟨_, List.getElem?_eq_getElem hjl⟩
   obtain ⟨b, o, rfl, hbl, hc0⟩ := HB.out.2.2 j q hq.out
   have hc := cell_below hbel hc0
   have hkj : j / 8 < k := by rw [hk.out]; unfold sizeB; omega
   have hkj' : (j : Int) / 8 < k := by omega
   cases q with
   | false =>
    have hnx : Hid (packN l (j + 1) = packN l j) := packN_no (atB_some hq.out)
    go_wp2
    go_roundw
    case rel => exact ⟨j + 1, by omega, by go_num, by rw [hnx.out]; exact HW.out, hbel⟩
    case measure => simp [intOf]; omega
   | true =>
    obtain ⟨x, hx⟩ : ∃ x, Hid ((packN l j)[j / 8]? = some x) := ⟨_, List.getElem?_eq_getElem (by rw [HL.out]; exact hkj)⟩
    obtain ⟨hcx, hfx⟩ := HW.out.cell hx.out
    have hnx : Hid (packN l (j + 1) = (packN l j).set (j / 8) (x ||| UInt8.ofNat (2 ^ (j % 8)))) := packN_yes (atB_some hq.out) x hx.out
    have hset : Hid (∀ y, RowY (wr.setCell ⟨w.heap.size, j / 8, none⟩ (cellOf y)) w.heap.size ((packN l j).set (j / 8) y)) := fun y => HW.out.set _ y
    unfold cellOf at hcx
    go_wp2
    go_region
    go_wp2
    go_roundw
    case rel =>
     refine ⟨j + 1, by omega, by go_num, ?_, (hbel.setCell (p := ⟨w.heap.size, j / 8, none⟩) (Nat.le_refl _) _).drew⟩
     rw [hnx.out, or_bit x j]
     exact (hset.out _).below (Below.refl _ _).drew
    case measure => simp [intOf]; omega
  ·
   obtain rfl : j = n := by omega
   have hcv := HW.out.conv k k (HL.out _)
   have he : Hid ((⟨(packN l j).toArray⟩ : ByteArray) = packS l) := by
    show _ = _
    rw [HE.out, packN_full]; rfl
   rw [he.out] at hcv
   go_wp2
   go_ret
   exact ⟨rfl, hbel⟩
def unN (s : ByteArray) (n j : Nat) : List Bool := unpackL s j ++ List.replicate (n - j) false
theorem unN_zero (s : ByteArray) (n : Nat) : unN s n 0 = List.replicate n false := by simp [unN, unpackL]
theorem unN_full (s : ByteArray) (n : Nat) : unN s n n = unpackL s n := by simp [unN]
theorem unN_length (s : ByteArray) {n j : Nat} (h : j ≤ n) : (unN s n j).length = n := by simp [unN, unpackL_length]; omega
theorem unpackL_succ (s : ByteArray) (j : Nat) : unpackL s (j + 1) = unpackL s j ++ [bitAt s j] := by
 unfold unpackL; rw [List.range_succ, List.map_append]; rfl
theorem unN_succ (s : ByteArray) {n j : Nat} (h : j < n) : (unN s n j).set j (bitAt s j) = unN s n (j + 1) := by
 unfold unN
 rw [List.set_append_right _ _ (by rw [unpackL_length]; omega), unpackL_length, Nat.sub_self, show n - j = (n - (j + 1)) + 1 by omega, List.replicate_succ, List.set_cons_zero, unpackL_succ, List.append_assoc]
 rfl
theorem unE_arg {s : ByteArray} {n : Int} (h : ¬ (0 ≤ n ∧ n ≤ 2048)) : unE s n = 1 := by unfold unE; rw [if_neg h]
theorem unE_short {s : ByteArray} {n : Nat} (h : n ≤ 2048) (hs : s.size < sizeB n) : unE s n = 3 := by
 unfold unE; rw [if_pos ⟨by omega, by omega⟩, if_pos (by simpa using hs)]
theorem unE_form {s : ByteArray} {n : Nat} (h : n ≤ 2048) (hs : ¬ s.size < sizeB n) (hf : ¬ packS (unpackL s n) = s) : unE s n = 4 := by
 unfold unE; rw [if_pos ⟨by omega, by omega⟩, if_neg (by simpa using hs), if_neg (by simpa using hf)]
theorem unE_ok {s : ByteArray} {n : Nat} (h : n ≤ 2048) (hf : packS (unpackL s n) = s) : unE s n = 0 := by
 have hz := ((pack_unpack s n).1 hf).1
 unfold unE; rw [if_pos ⟨by omega, by omega⟩, if_neg (by simp; omega), if_pos (by simpa using hf)]
theorem unL_bad {s : ByteArray} {n : Int} (h : unE s n ≠ 0) : unL s n = [] := by unfold unL; rw [if_neg h]
theorem unL_ok {s : ByteArray} {n : Nat} (h : unE s n = 0) : unL s n = unpackL s n := by unfold unL; rw [if_pos h]; rfl
set_option maxHeartbeats 2000000 in
theorem unpack_any (s : ByteArray) (n : Int) (w : World) (hs : s.size ≤ maxLen) :
  Calls Tryz.prog 75 #[.string s, .int .i64 n] w fun e w' => ∃ a c, e = .returned (.tuple #[.slice a (unL s n).length c, .int .i64 (unE s n)]) ∧ IsB w' a c (unL s n) ∧ Below w.heap.size w w' := by
 by_cases h0 : n < 0
 ·
  have hE : Hid (unE s n = 1) := unE_arg (by omega)
  have hL : Hid (unL s n = []) := unL_bad (by rw [hE.out]; decide)
  go_enter Tryz.func75, Tryz.ntmps75
  go_wp2
  go_ret2
  exact ⟨none, 0, by rw [hE.out, hL.out]; rfl, by rw [hL.out]; exact IsB_nil _, Below.refl _ _⟩
 by_cases h1 : 2048 < n
 ·
  have hE : Hid (unE s n = 1) := unE_arg (by omega)
  have hL : Hid (unL s n = []) := unL_bad (by rw [hE.out]; decide)
  go_enter Tryz.func75, Tryz.ntmps75
  go_wp2
  go_ret2
  exact ⟨none, 0, by rw [hE.out, hL.out]; rfl, by rw [hL.out]; exact IsB_nil _, Below.refl _ _⟩
 obtain ⟨m, rfl⟩ : ∃ m : Nat, n = m := ⟨n.toNat, by omega⟩
 have hm : m ≤ 2048 := by omega
 obtain ⟨k, hk, hkb⟩ : ∃ k, Hid (k = sizeB m) ∧ k ≤ 256 := ⟨_, rfl, by unfold sizeB; omega⟩
 have cb : ∀ W, Calls Tryz.prog 116 #[.int .i64 m] W fun e w' => e = .returned (.int .i64 k) ∧ W = w' := by
  intro W; rw [hk.out]; exact bytesFor_any m W (by omega)
 unfold maxLen at hs
 by_cases h2 : s.size < k
 ·
  have hE : Hid (unE s m = 3) := unE_short hm (by rw [← hk.out]; exact h2)
  have hL : Hid (unL s m = []) := unL_bad (by rw [hE.out]; decide)
  have h2' : (s.size : Int) < k := by omega
  go_enter Tryz.func75, Tryz.ntmps75
  go_wp2_with (go_at_call 116; refine (cb _).mono ?_; rintro e w' ⟨rfl, rfl⟩)
  go_ret2
  exact ⟨none, 0, by rw [hE.out, hL.out]; rfl, by rw [hL.out]; exact IsB_nil _, Below.refl _ _⟩
 have h2' : ¬ (s.size : Int) < k := by omega
 by_cases h3 : k < s.size
 ·
  have hE : Hid (unE s m = 4) := unE_form hm (by rw [← hk.out]; exact h2) fun h => by have := ((pack_unpack s m).1 h).1; rw [← hk.out] at this; omega
  have hL : Hid (unL s m = []) := unL_bad (by rw [hE.out]; decide)
  have h3' : (k : Int) < s.size := by omega
  go_enter Tryz.func75, Tryz.ntmps75
  go_wp2_with (go_at_call 116; refine (cb _).mono ?_; rintro e w' ⟨rfl, rfl⟩)
  go_ret2
  exact ⟨none, 0, by rw [hE.out, hL.out]; rfl, by rw [hL.out]; exact IsB_nil _, Below.refl _ _⟩
 have h3' : ¬ (k : Int) < s.size := by omega
 have hz : Hid (s.size = sizeB m) := by show _ = _; rw [← hk.out]; omega
 obtain ⟨q, hq⟩ : ∃ q, Hid (far s m = q) := ⟨_, rfl⟩
 have ch : ∀ W, Calls Tryz.prog 126 #[.string s, .int .i64 m] W fun e w' => e = .returned (.bool q) ∧ W = w' := by
  intro W; rw [← hq.out]; exact hasBitFrom_any s m W (by omega) (by omega)
 cases q with
 | true =>
  have hE : Hid (unE s m = 4) := unE_form hm (by rw [← hk.out]; exact h2) fun h => by have := (far_iff s m).2 ((pack_unpack s m).1 h).2; rw [hq.out] at this; cases this
  have hL : Hid (unL s m = []) := unL_bad (by rw [hE.out]; decide)
  go_enter Tryz.func75, Tryz.ntmps75
  go_wp2_with (first
   | (go_at_call 116; refine (cb _).mono ?_; rintro e w' ⟨rfl, rfl⟩)
   | (go_at_call 126; refine (ch _).mono ?_; rintro e w' ⟨rfl, rfl⟩))
  go_ret2
  exact ⟨none, 0, by rw [hE.out, hL.out]; rfl, by rw [hL.out]; exact IsB_nil _, Below.refl _ _⟩
 | false =>
  have hE : Hid (unE s m = 0) := unE_ok hm ((pack_unpack s m).2 ⟨hz.out, (far_iff s m).1 hq.out⟩)
  have hL : Hid (unL s m = unpackL s m) := unL_ok hE.out
  obtain ⟨Z, hmk, hZ⟩ : ∃ Z : Array Value, (∀ W : World, (Instr.makeSlice 36 (.int .i64 m) (.int .i64 m)).run Tryz.prog W = .ok (.slice (some ⟨W.heap.size, 0, none⟩) m m) (W.alloc (.cells Z 4))) ∧ Hid (Z = (List.replicate m (Value.bool false)).toArray) :=
   ⟨madeCells #[.bool false] m, fun W => run_make_row' (P := Tryz.prog) 36 4 (.bool false) 1 Tryz.underlying36 Tryz.info4 rfl .i64 .i64 m (by omega) (by omega) W, made_one _ m⟩
  have HR : Hid (RowT (w.alloc (.cells Z 4)) w.heap.size m (unN s m 0)) := by
   show RowT _ _ _ _
   rw [unN_zero]
   exact RowT.new w m hZ.out rfl (by unfold maxLen; omega)
  go_enter Tryz.func75, Tryz.ntmps75
  go_wp2_with (first
   | (go_at_call 116; refine (cb _).mono ?_; rintro e w' ⟨rfl, rfl⟩)
   | (go_at_call 126; refine (ch _).mono ?_; rintro e w' ⟨rfl, rfl⟩))
  clear cb ch
  go_loopw [32] (fun v wr => ∃ j : Nat, j ≤ m ∧ v = .int .i64 j ∧ RowT wr w.heap.size m (unN s m j) ∧ Below w.heap.size w wr) (fun v _ => m - (intOf v).toNat)
  case atStart => exact ⟨0, by omega, rfl, HR.out, (Below.refl _ _).alloc (Nat.le_refl _) _⟩
  case round =>
   obtain ⟨j, hj, rfl, hrow, hbel⟩ := hrel
   have HW : Hid (RowT wr w.heap.size m (unN s m j)) := hrow
   clear hrow
   by_cases hlt : j < m
   ·
    have hlt' : (j : Int) < m := by omega
    obtain ⟨q, hq⟩ : ∃ q, Hid (bitAt s j = q) := ⟨_, rfl⟩
    have cb : ∀ W, Calls Tryz.prog 127 #[.string s, .int .i64 j] W fun e w' => e = .returned (.bool q) ∧ W = w' := by
     intro W; rw [← hq.out]; exact bit_any s j W (by unfold maxLen; omega) (by rw [hz.out]; unfold sizeB; omega) (by omega)
    obtain ⟨hcx, hfx⟩ := HW.out.cell (List.getElem?_eq_getElem (show j < _ by rw [unN_length s hj]; exact hlt))
    generalize (unN s m j)[j]'_ = x at hcx
    have hset : Hid (RowT (wr.setCell ⟨w.heap.size, j, none⟩ (.bool q)) w.heap.size m (unN s m (j + 1))) := by
     show RowT _ _ _ _
     rw [← unN_succ s hlt, hq.out]
     exact HW.out.set j q
    clear hq
    go_wp2_with (go_at_call 127; refine (cb _).mono ?_; rintro e w' ⟨rfl, rfl⟩)
    go_roundw
    case rel => exact ⟨j + 1, by omega, by go_num, hset.out, hbel.setCell (p := ⟨w.heap.size, j, none⟩) (Nat.le_refl _) _⟩
    case measure => simp [intOf]; omega
   ·
    obtain rfl : j = m := by omega
    go_wp2
    go_ret2
    refine ⟨some ⟨w.heap.size, 0, none⟩, j, by rw [hE.out, hL.out, unpackL_length]; rfl, ?_, hbel⟩
    rw [hL.out, ← unN_full]
    exact HW.out.isB
end Go.Proofs.YtaobfgplheoefaaGreat
namespace Go.Proofs.YtaobfgplheoefaaGreat.Plain
open Go.RowKit
theorem byteAt_out {s : ByteArray} {j : Nat} (h : s.size ≤ j) : byteAt s j = 0 := by
 unfold byteAt
 rw [List.getElem?_eq_none h]; rfl
theorem byteAt_trim (s : ByteArray) (j : Nat) : byteAt (trimS s) j = byteAt s j := by
 by_cases h : j < trimN s s.size
 ·
  unfold byteAt
  rw [trimS_data, List.getElem?_take_of_lt h]
 ·
  rw [byteAt_out (s := trimS s) (by rw [trimS_size]; omega)]
  by_cases h2 : j < s.size
  ·
   exact (trimN_tail s s.size j (by omega) h2).symm
  ·
   exact (byteAt_out (by omega)).symm
def Even (s : ByteArray) : Prop := 0 < s.size → byteAt s (s.size - 1) ≠ 0
theorem even_trim (s : ByteArray) : Even (trimS s) := by
 intro h
 rw [trimS_size] at h ⊢
 rw [byteAt_trim]
 exact trimN_last s s.size h
theorem even_size {a b : ByteArray} (hb : Even b) (h : ∀ j, byteAt a j = byteAt b j) : b.size ≤ a.size := by
 refine Nat.le_of_not_lt fun hlt => ?_
 have h1 := hb (by omega)
 rw [← h, byteAt_out (by omega)] at h1
 exact h1 rfl
theorem byteAt_ext {a b : ByteArray} (hs : a.size = b.size) (h : ∀ j, j < a.size → byteAt a j = byteAt b j) : a = b := by
 apply bytes_ext
 apply List.ext_getElem?
 intro j
 by_cases hj : j < a.size
 ·
  have := h j hj
  unfold byteAt at this
  have ha : j < a.data.toList.length := hj
  have hb : j < b.data.toList.length := by show j < b.size; omega
  rw [List.getElem?_eq_getElem ha, List.getElem?_eq_getElem hb] at this ⊢
  simp only [Option.getD_some] at this
  rw [this]
 ·
  rw [List.getElem?_eq_none (by show a.size ≤ j; omega), List.getElem?_eq_none (by show b.size ≤ j; omega)]
theorem even_ext {a b : ByteArray} (ha : Even a) (hb : Even b) (h : ∀ j, byteAt a j = byteAt b j) : a = b :=
 byteAt_ext (Nat.le_antisymm (even_size ha fun j => (h j).symm) (even_size hb h)) fun j _ => h j
theorem trim_even {s : ByteArray} (h : Even s) : trimS s = s := even_ext (even_trim s) h (byteAt_trim s)
theorem trimS_le (s : ByteArray) : (trimS s).size ≤ s.size := by rw [trimS_size]; exact trimN_le s s.size
theorem even_iff (s : ByteArray) : Even s ↔ trimS s = s := ⟨trim_even, fun h => by rw [← h]; exact even_trim s⟩
def okS (s : ByteArray) : Bool := decide (s.size ≤ 4096) && decide (trimS s = s)
theorem okS_iff (s : ByteArray) : okS s = true ↔ s.size ≤ 4096 ∧ Even s := by
 unfold okS
 rw [Bool.and_eq_true, decide_eq_true_eq, decide_eq_true_eq, even_iff]
def okW (n : Nat) (p : Int × ByteArray) : Bool := decide (0 ≤ p.1) && decide (p.1 < n) && okS p.2
theorem okW_iff (n : Nat) (p : Int × ByteArray) : okW n p = true ↔ (0 ≤ p.1 ∧ p.1 < n) ∧ okS p.2 = true := by
 unfold okW
 rw [Bool.and_eq_true, Bool.and_eq_true, decide_eq_true_eq, decide_eq_true_eq]
def rightD (bs : List ByteArray) (ps : List (Int × ByteArray)) : Bool :=
 decide (1 ≤ bs.length) && decide (bs.length ≤ 2048) && decide (ps.length ≤ 2048) && bs.all okS && ps.all (okW bs.length)
theorem rightD_iff (bs : List ByteArray) (ps : List (Int × ByteArray)) : rightD bs ps = true ↔
  (1 ≤ bs.length ∧ bs.length ≤ 2048 ∧ ps.length ≤ 2048) ∧ (∀ s ∈ bs, okS s = true) ∧ ∀ p ∈ ps, okW bs.length p = true := by
 unfold rightD
 simp only [Bool.and_eq_true, decide_eq_true_eq, List.all_eq_true]
 constructor
 ·
  rintro ⟨⟨⟨⟨a, b⟩, c⟩, d⟩, e⟩; exact ⟨⟨a, b, c⟩, d, e⟩
 ·
  rintro ⟨⟨a, b, c⟩, d, e⟩; exact ⟨⟨⟨⟨a, b⟩, c⟩, d⟩, e⟩
def blk (bs : List ByteArray) (k : Nat) : ByteArray := bs[k]?.getD ByteArray.empty
def tellOn (k : Int) : ByteArray → List (Int × ByteArray) → ByteArray
 | s, [] => s
 | s, p :: ps => tellOn k (if p.1 = k then p.2 else s) ps
def tellsS (bs : List ByteArray) (ps : List (Int × ByteArray)) (k : Nat) : ByteArray := tellOn k (blk bs k) ps
theorem tellOn_append (k : Int) (s : ByteArray) (ps qs : List (Int × ByteArray)) : tellOn k s (ps ++ qs) = tellOn k (tellOn k s ps) qs := by
 induction ps generalizing s with
 | nil => rfl
 | cons p ps ih => exact ih _
end Go.Proofs.YtaobfgplheoefaaGreat.Plain
namespace Go.Proofs.YtaobfgplheoefaaGreat
open Go.RowKit Plain
set_option linter.unusedVariables false
set_option maxHeartbeats 400000 in
theorem at_any (a : Option Addr) (c : Nat) (l : List Bool) (i : Nat) (w : World) (hB : IsB w a c l) :
  Calls Tryz.prog 120 #[.slice a l.length c, .int .i64 i] w fun e w' => e = .returned (.bool (atB l i)) ∧ w = w' := by
 by_cases h : i < l.length
 ·
  obtain ⟨q, hq⟩ : ∃ q, l[i]? = some q := ⟨_, List.getElem?_eq_getElem h⟩
  obtain ⟨b, o, rfl, hbl, hc⟩ := hB.2.2 i q hq
  rw [atB_some hq]
  obtain ⟨n, hn⟩ : ∃ n, n = l.length := ⟨_, rfl⟩
  rw [← hn] at h ⊢
  have h' : (i : Int) < n := by omega
  clear hn hq hB
  go_enter Tryz.func120, Tryz.ntmps120
  go_wp2
  go_ret
  exact ⟨rfl, rfl⟩
 ·
  rw [atB_past (by omega)]
  obtain ⟨n, hn⟩ : ∃ n, n = l.length := ⟨_, rfl⟩
  rw [← hn] at h ⊢
  have h' : ¬ (i : Int) < n := by omega
  clear hn hB
  go_enter Tryz.func120, Tryz.ntmps120
  go_wp2
  go_ret
  exact ⟨rfl, rfl⟩
def highB (l : List Bool) (p : Nat) : Nat → Nat
 | 0 => 0
 | t + 1 => highB l p t * 2 + bn (atB l (p + (7 - t)))
theorem highB_lt (l : List Bool) (p t : Nat) : highB l p t < 2 ^ t := by
 induction t with
 | zero => exact Nat.zero_lt_one
 | succ t ih =>
  rw [highB, Nat.pow_succ]
  have := bn_lt (atB l (p + (7 - t)))
  omega
theorem highB_low (l : List Bool) (p : Nat) : highB l p 8 = lowB l p 8 := by
 simp only [highB, lowB, Nat.sub_zero, Nat.reduceSub, Nat.reducePow]
 omega
def bitsPackR (l : List Bool) (i : Nat) : List UInt8 := (List.range i).map (byteB l)
theorem packR_length (l : List Bool) (i : Nat) : (bitsPackR l i).length = i := by simp [bitsPackR]
theorem packR_succ (l : List Bool) (i : Nat) : bitsPackR l (i + 1) = bitsPackR l i ++ [byteB l i] := by
 unfold bitsPackR; rw [List.range_succ, List.map_append]; rfl
theorem byteB_cell (l : List Bool) (i : Nat) : cellOf (byteB l i) = .int .u8 ((highB l (8 * i) 8 : Nat) : Int) := by
 unfold cellOf; rw [byteB_nat, highB_low]
theorem bitsConv_own (w : World) (base g n cap : Nat) (l : List UInt8) (hl : l.length = n) (h : w.ownsRow base 5 1 (.slice (some ⟨g, 0, none⟩) n cap) n (l.map cellOf)) :
  (convert 116 9 (.slice (some ⟨g, 0, none⟩) n cap)).run Tryz.prog w = .ok (.string ⟨l.toArray⟩) w := by
 subst hl
 refine run_convert_bytes_back (P := Tryz.prog) _ 116 9 5 ⟨g, 0, none⟩ cap l Tryz.underlying116 Tryz.underlying5 Tryz.underlying9 fun j hj => ?_
 exact h.cells (g := g) rfl j _ (by simp [cellOf, hj])
set_option maxRecDepth 20000 in
set_option maxHeartbeats 2000000 in
theorem refPack_any (a : Option Addr) (c : Nat) (l : List Bool) (w : World) (hB : IsB w a c l) (hl : l.length ≤ 4096) :
  Calls Tryz.prog 69 #[.slice a l.length c] w fun e w' => e = .returned (.string (packS l)) ∧ Below w.heap.size w w' := by
 obtain ⟨i0, hi, hz0, hz1, hz2⟩ := info_parts Tryz.info5
 obtain ⟨n, hn⟩ : ∃ n, n = l.length := ⟨_, rfl⟩
 have HB : Hid (IsB w a c l) := hB
 have HE : Hid (n = l.length) := hn
 have hnb : n ≤ 4096 := by omega
 rw [← hn]
 clear hB hn hl
 go_enter Tryz.func69, Tryz.ntmps69
 go_wp2
 go_loopw [3, 4] (fun b v wr => ∃ i : Nat, i ≤ sizeB n ∧ v = .int .i64 (8 * (i : Int)) ∧ wr.ownsRow w.heap.size 5 1 b i ((bitsPackR l i).map cellOf) ∧ (∃ g cap, b = .slice (some ⟨g, 0, none⟩) i cap) ∧ Below w.heap.size w wr) (fun _ v _ => 8192 - (intOf v).toNat)
 case atStart =>
  refine ⟨0, by omega, by go_num, ?_, ⟨_, _, rfl⟩, (Below.refl _ _).alloc (Nat.le_refl _) _⟩
  exact World.ownsRow_made _ _ 0 (Nat.le_refl _) (by decide) rfl
 case round =>
  obtain ⟨i, hil, rfl, hown, ⟨g, cap, rfl⟩, hbel⟩ := hrel
  have HO : Hid (World.ownsRow wr w.heap.size 5 1 (.slice (some ⟨g, 0, none⟩) i cap) i ((bitsPackR l i).map cellOf)) := hown
  clear hown
  by_cases hlt : 8 * i < n
  ·
   have hlt' : 8 * (i : Int) < n := by omega
   have hbs := hbel.size
   have HBr : Hid (IsB wr a c l) := HB.out.below hbel
   go_wp2
   go_loopw [5, 6] (fun x v wq => ∃ t y : Nat, t ≤ 8 ∧ y = highB l (8 * i) t ∧ y < 256 ∧ x = .int .i64 y ∧ v = .int .i64 (7 - (t : Int)) ∧ wr = wq) (fun _ v _ => (intOf v + 1).toNat)
   case atStart => exact ⟨0, 0, by omega, rfl, by omega, by go_num, by go_num, by trivial⟩
   case round =>
    obtain ⟨t, y, ht, hy, hyb, rfl, rfl, rfl⟩ := hrel
    have HY : Hid (y = highB l (8 * i) t) := hy
    clear hy
    by_cases htl : t < 8
    ·
     obtain ⟨q, hq⟩ : ∃ q, Hid (atB l (8 * i + (7 - t)) = q) := ⟨_, rfl⟩
     have ca : ∀ W, wr = W → Calls Tryz.prog 120 #[.slice a n c, .int .i64 (8 * (i : Int) + (7 - (t : Int)))] W fun e w' => e = .returned (.bool q) ∧ wr = w' := by
      rintro W rfl
      have := at_any a c l (8 * i + (7 - t)) wr HBr.out
      rw [show ((8 * i + (7 - t) : Nat) : Int) = 8 * (i : Int) + (7 - (t : Int)) by omega, hq.out, ← HE.out] at this
      exact this
     have hnx : Hid (highB l (8 * i) (t + 1) = y * 2 + bn q) := by show highB _ _ _ = _; rw [highB, hq.out, ← HY.out]
     have hnb : Hid (highB l (8 * i) (t + 1) < 256) := Nat.lt_of_lt_of_le (highB_lt l (8 * i) (t + 1)) (Nat.pow_le_pow_right (by decide) (show t + 1 ≤ 8 by omega))
     cases q with
     | true =>
      go_wp2_with (go_at_call 120; refine (ca _ rfl).mono ?_; rintro e w' ⟨rfl, rfl⟩)
      go_roundw
      case rel => exact ⟨t + 1, y * 2 + 1, by omega, hnx.out.symm, by rw [hnx.out] at hnb; exact hnb.out, by go_num, congrArg (Value.int .i64) (by omega), by trivial⟩
      case measure => simp [intOf]; omega
     | false =>
      go_wp2_with (go_at_call 120; refine (ca _ rfl).mono ?_; rintro e w' ⟨rfl, rfl⟩)
      go_roundw
      case rel => exact ⟨t + 1, y * 2, by omega, hnx.out.symm, by rw [hnx.out] at hnb; exact hnb.out, by go_num, congrArg (Value.int .i64) (by omega), by trivial⟩
      case measure => simp [intOf]; omega
    ·
     obtain rfl : t = 8 := by omega
     have hyy : Hid ((bitsPackR l (i + 1)).map cellOf = (bitsPackR l i).map cellOf ++ [.int .u8 (y : Int)]) := by
      show _ = _
      rw [packR_succ, List.map_append, List.map_singleton, byteB_cell, ← HY.out]
     have hown := HO.out
     go_wp2_with (at_builtin; refine wpList_append_own _ rfl _ _ 116 rfl w.heap.size 5 i0 (.int .u8 0) 1 1 Tryz.underlying116 hi hz0 hz1 hz2 rfl (by decide) _ _ _ rfl (hown.alloc _) ⟨wr.heap.size, 0, none⟩ 1 1 [.int .u8 (y : Int)] rfl rfl ?c1 ?c2 ?c3 ?c4 ?c5 ?_)
     case c1 =>
      intro j u hj
      match j, hj with
      | 0, hj => simp at hj; subst hj; simp [Addr.add]
     case c2 => intro u hu; simp at hu; subst hu; rfl
     case c3 => unfold maxLen; omega
     case c4 => omega
     case c5 => simp; omega
     ·
      intro v' w1 hown' hgrow _
      have R2 : Below w.heap.size w w1 := (hbel.alloc (by omega) _).grown hgrow (by simp; omega) (fun k hk => (hown.lt k hk).1)
      have R : Hid (w1.ownsRow w.heap.size 5 1 v' (i + 1) ((bitsPackR l (i + 1)).map cellOf)) := by show World.ownsRow _ _ _ _ _ _ _; rw [hyy.out]; exact hown'
      clear hown' hgrow hown
      obtain ⟨g', cap', rfl, -, -⟩ := R.out.form (by omega)
      go_wp2
      go_roundw
      case rel => exact ⟨i + 1, by unfold sizeB; omega, congrArg (Value.int .i64) (by omega), R.out, ⟨_, _, rfl⟩, R2⟩
      case measure => simp [intOf]; omega
  ·
   have hlt' : ¬ 8 * (i : Int) < n := by omega
   obtain ⟨k, hk⟩ : ∃ k, Hid (k = sizeB n) := ⟨_, rfl⟩
   obtain rfl : i = k := by rw [hk.out]; unfold sizeB at hil ⊢; omega
   have hcv := bitsConv_own wr w.heap.size g i cap _ (packR_length l i) HO.out
   have he : Hid ((⟨(bitsPackR l i).toArray⟩ : ByteArray) = packS l) := by
    show _ = _
    rw [hk.out, HE.out]; rfl
   rw [he.out] at hcv
   go_wp2
   go_ret
   exact ⟨rfl, hbel⟩
def least (n : Nat) : List (List Bool) → Nat
 | [] => n
 | l :: ls => least (min n l.length) ls
theorem least_append (n : Nat) (xs ys : List (List Bool)) : least n (xs ++ ys) = least (least n xs) ys := by
 induction xs generalizing n with
 | nil => rfl
 | cons x xs ih => rw [List.cons_append, least, least, ih]
theorem least_le (n : Nat) (ls : List (List Bool)) : least n ls ≤ n := by
 induction ls generalizing n with
 | nil => exact Nat.le_refl _
 | cons x xs ih => rw [least]; have := ih (min n x.length); omega
theorem least_mem (n : Nat) (ls : List (List Bool)) : ∀ l ∈ ls, least n ls ≤ l.length := by
 induction ls generalizing n with
 | nil => intro l hl; cases hl
 | cons x xs ih =>
  intro l hl
  rw [least]
  rcases List.mem_cons.1 hl with rfl | hl
  ·
   have := least_le (min n l.length) xs; omega
  ·
   exact ih _ l hl
theorem least_is (n : Nat) (ls : List (List Bool)) : least n ls = n ∨ ∃ l ∈ ls, l.length = least n ls := by
 induction ls generalizing n with
 | nil => exact .inl rfl
 | cons x xs ih =>
  rw [least]
  rcases ih (min n x.length) with h | ⟨l, hl, h⟩
  ·
   rw [h]
   by_cases e : n ≤ x.length
   ·
    exact .inl (by omega)
   ·
    exact .inr ⟨x, by simp, by omega⟩
  ·
   exact .inr ⟨l, by simp [hl], h⟩
def shortestB (ls : List (List Bool)) : Nat := match ls with
 | [] => 0
 | l :: _ => least l.length ls
theorem shortestB_is {ls : List (List Bool)} (h : ls ≠ []) : ∃ l ∈ ls, l.length = shortestB ls := by
 cases ls with
 | nil => exact absurd rfl h
 | cons x xs =>
  rcases least_is x.length (x :: xs) with h | h
  ·
   exact ⟨x, by simp, h.symm⟩
  ·
   exact h
theorem shortestB_le (ls : List (List Bool)) : ∀ l ∈ ls, shortestB ls ≤ l.length := by
 cases ls with
 | nil => intro l hl; cases hl
 | cons x xs => exact least_mem _ _
theorem countB_short (ls : List (List Bool)) : countN ls (shortestB ls) = countB ls := by
 by_cases h : ls = []
 ·
  subst h; rfl
 ·
  obtain ⟨l, hl, he⟩ := shortestB_is h
  unfold countB
  rw [← he, ← countN_past hl _ (longest_le hl)]
theorem take_rows {ds : List (Option Addr × Nat × List Bool)} {j : Nat} {d : (Option Addr × Nat × List Bool)} (h : ds[j]? = some d) : rowsOf (ds.take (j + 1)) = rowsOf (ds.take j) ++ [d.2.2] := by
 unfold rowsOf; rw [List.take_add_one, h, List.map_append]; rfl
set_option maxHeartbeats 1000000 in
theorem longest_any (a : Option Addr) (c : Nat) (ds : List (Option Addr × Nat × List Bool)) (w : World) (hL : IsL w a c ds) :
  Calls Tryz.prog 146 #[.slice a ds.length c] w fun e w' => e = .returned (.int .i64 (longest (rowsOf ds))) ∧ w = w' := by
 obtain ⟨n, hn⟩ : ∃ n, n = ds.length := ⟨_, rfl⟩
 have hnb : n ≤ 9223372036854775807 := by rw [hn]; exact Nat.le_trans hL.1 hL.2.1
 have HL : Hid (IsL w a c ds) := hL
 have HN : Hid (n = ds.length) := hn
 rw [← hn]
 clear hL hn
 go_enter Tryz.func146, Tryz.ntmps146
 go_wp2
 go_loopw [3, 7] (fun u v wr => ∃ j m : Nat, j ≤ n ∧ v = .int .i64 j ∧ m = longest (rowsOf (ds.take j)) ∧ u = .int .i64 m ∧ w = wr) (fun _ v _ => n - (intOf v).toNat)
 case atStart => exact ⟨0, 0, by omega, rfl, rfl, rfl, by trivial⟩
 case round =>
  obtain ⟨j, m, hj, rfl, hm, rfl, rfl⟩ := hrel
  have HM : Hid (m = longest (rowsOf (ds.take j))) := hm
  clear hm
  by_cases hlt : j < n
  ·
   have hlt' : (j : Int) < n := by omega
   obtain ⟨d, hd⟩ : ∃ d, Hid (ds[j]? = some d) := ⟨_, List.getElem?_eq_getElem (by rw [← HN.out]; exact hlt)⟩
   obtain ⟨hdB, b, o, rfl, hbl, hc⟩ := HL.out.2.2 j d hd.out
   obtain ⟨k, hk⟩ : ∃ k, k = d.2.2.length := ⟨_, rfl⟩
   have hkb : k ≤ 9223372036854775807 := by rw [hk]; exact Nat.le_trans hdB.1 hdB.2.1
   rw [← hk] at hc
   have hnx : Hid (longest (rowsOf (ds.take (j + 1))) = max m k) := by
    show _ = _
    rw [take_rows hd.out, longest_append, ← HM.out, hk]
    simp [longest]
   generalize d.1 = da at hc hdB
   generalize d.2.1 = dc at hc hdB
   clear hdB hk hd
   obtain ⟨mx, hmx, hmx'⟩ : ∃ mx : Nat, Hid (mx = max m k) ∧ max (m : Int) k = mx := ⟨_, rfl, by omega⟩
   have hmr := max_run hmx'
   clear hmx'
   go_wp2
   go_roundw
   case rel => exact ⟨j + 1, mx, by omega, by go_num, by rw [hnx.out]; exact hmx.out, rfl, by trivial⟩
   case measure => simp [intOf]; omega
  ·
   obtain rfl : j = n := by omega
   have he : Hid ((m : Int) = ((longest (rowsOf ds) : Nat) : Int)) := by show _ = _; rw [HM.out, HN.out, List.take_length]
   go_wp2
   go_ret
   exact ⟨ret_int he.out, rfl⟩
theorem take_all {ds : List (Option Addr × Nat × List Bool)} {n : Nat} (h : n = ds.length) : rowsOf (ds.take n) = rowsOf ds := by rw [h, List.take_length]
set_option maxHeartbeats 1000000 in
theorem shortest_any (a : Option Addr) (c : Nat) (ds : List (Option Addr × Nat × List Bool)) (w : World) (hL : IsL w a c ds) :
  Calls Tryz.prog 144 #[.slice a ds.length c] w fun e w' => e = .returned (.int .i64 (shortestB (rowsOf ds))) ∧ w = w' := by
 obtain ⟨n, hn⟩ : ∃ n, n = ds.length := ⟨_, rfl⟩
 have hnb : n ≤ 9223372036854775807 := by rw [hn]; exact Nat.le_trans hL.1 hL.2.1
 have HL : Hid (IsL w a c ds) := hL
 have HN : Hid (n = ds.length) := hn
 rw [← hn]
 clear hL hn
 by_cases h0 : n = 0
 ·
  have he : Hid ((0 : Int) = ((shortestB (rowsOf ds) : Nat) : Int)) := by
   show _ = _
   have : ds = [] := List.length_eq_zero_iff.1 (HN.out.symm.trans h0)
   rw [this]; rfl
  subst h0
  go_enter Tryz.func144, Tryz.ntmps144
  go_wp2
  go_ret
  exact ⟨ret_int he.out, rfl⟩
 ·
  have h0' : ((n : Int) == 0) = false := by simp; omega
  have h0n : 0 < n := by omega
  have h0i : (0 : Int) < n := by omega
  obtain ⟨d0, hd0⟩ : ∃ d, Hid (ds[0]? = some d) := ⟨ds[0]'(by rw [← HN.out]; exact h0n), show _ = _ from List.getElem?_eq_getElem (by rw [← HN.out]; exact h0n)⟩
  obtain ⟨hdB0, b, o, rfl, hbl, hc0⟩ := HL.out.2.2 0 d0 hd0.out
  obtain ⟨k0, hk0⟩ : ∃ k, Hid (k = d0.2.2.length) := ⟨_, rfl⟩
  have hkb0 : k0 ≤ 9223372036854775807 := by rw [hk0.out]; exact Nat.le_trans hdB0.1 hdB0.2.1
  rw [← hk0.out] at hc0
  have hsh : Hid (shortestB (rowsOf ds) = least k0 (rowsOf ds)) := by
   show _ = _
   cases hds : ds with
   | nil => rw [hds] at hd0; cases hd0.out
   | cons x xs =>
    have hx := hd0.out
    rw [hds] at hx
    simp at hx
    subst hx
    rw [hk0.out]; rfl
  generalize d0.1 = da0 at hc0 hdB0
  generalize d0.2.1 = dc0 at hc0 hdB0
  clear hdB0 hd0
  rw [Nat.add_zero] at hc0
  go_enter Tryz.func144, Tryz.ntmps144
  go_wp2
  go_loopw [3, 14] (fun u v wr => ∃ j m : Nat, j ≤ n ∧ v = .int .i64 j ∧ m = least k0 (rowsOf (ds.take j)) ∧ m ≤ k0 ∧ u = .int .i64 m ∧ w = wr) (fun _ v _ => n - (intOf v).toNat)
  case atStart => exact ⟨0, k0, by omega, rfl, rfl, Nat.le_refl _, rfl, by trivial⟩
  case round =>
   obtain ⟨j, m, hj, rfl, hm, hmk, rfl, rfl⟩ := hrel
   have HM : Hid (m = least k0 (rowsOf (ds.take j))) := hm
   clear hm
   by_cases hlt : j < n
   ·
    have hlt' : (j : Int) < n := by omega
    obtain ⟨d, hd⟩ : ∃ d, Hid (ds[j]? = some d) := ⟨_, List.getElem?_eq_getElem (by rw [← HN.out]; exact hlt)⟩
    obtain ⟨hdB, b', o', he, hbl, hc⟩ := HL.out.2.2 j d hd.out
    cases he
    obtain ⟨k, hk⟩ : ∃ k, k = d.2.2.length := ⟨_, rfl⟩
    have hkb : k ≤ 9223372036854775807 := by rw [hk]; exact Nat.le_trans hdB.1 hdB.2.1
    rw [← hk] at hc
    have hnx : Hid (least k0 (rowsOf (ds.take (j + 1))) = min m k) := by
     show _ = _
     rw [take_rows hd.out, least_append, ← HM.out, hk]
     simp [least]
    generalize d.1 = da at hc hdB
    generalize d.2.1 = dc at hc hdB
    clear hdB hk hd
    obtain ⟨mx, hmx, hmx', hmk2⟩ : ∃ mx : Nat, Hid (mx = min m k) ∧ min (m : Int) k = mx ∧ mx ≤ k0 := ⟨_, rfl, by omega, by omega⟩
    have hmr := min_run hmx'
    clear hmx'
    go_wp2
    go_roundw
    case rel => exact ⟨j + 1, mx, by omega, by go_num, by rw [hnx.out]; exact hmx.out, hmk2, rfl, by trivial⟩
    case measure => simp [intOf]; omega
   ·
    obtain rfl : j = n := by omega
    have he : Hid ((m : Int) = ((shortestB (rowsOf ds) : Nat) : Int)) := by show _ = _; rw [HM.out, take_all HN.out, hsh.out]
    go_wp2
    go_ret
    exact ⟨ret_int he.out, rfl⟩
def allB (ls : List (List Bool)) (i : Nat) : Bool := decide (howB ls i = ls.length)
theorem allB_yes {ls : List (List Bool)} {i : Nat} (h : ∀ l ∈ ls, atB l i = true) : allB ls i = true := decide_eq_true (howB_all.2 h)
theorem allB_no {ls : List (List Bool)} {i : Nat} {l : List Bool} (hl : l ∈ ls) (h : atB l i = false) : allB ls i = false := by
 refine decide_eq_false fun hh => ?_
 have := howB_all.1 hh l hl
 rw [h] at this; cases this
set_option maxHeartbeats 1000000 in
theorem allHave_any (a : Option Addr) (c : Nat) (ds : List (Option Addr × Nat × List Bool)) (i : Nat) (w : World) (hL : IsL w a c ds) (hi : ∀ l ∈ rowsOf ds, i < l.length) :
  Calls Tryz.prog 145 #[.slice a ds.length c, .int .i64 i] w fun e w' => e = .returned (.bool (allB (rowsOf ds) i)) ∧ w = w' := by
 obtain ⟨n, hn⟩ : ∃ n, n = ds.length := ⟨_, rfl⟩
 have hnb : n ≤ 9223372036854775807 := by rw [hn]; exact Nat.le_trans hL.1 hL.2.1
 have HL : Hid (IsL w a c ds) := hL
 have HN : Hid (n = ds.length) := hn
 have HI : Hid (∀ l ∈ rowsOf ds, i < l.length) := hi
 rw [← hn]
 clear hL hn hi
 go_enter Tryz.func145, Tryz.ntmps145
 go_wp2
 go_loopw [8] (fun v wr => ∃ j : Nat, j ≤ n ∧ v = .int .i64 j ∧ (∀ l ∈ rowsOf (ds.take j), atB l i = true) ∧ w = wr) (fun v _ => n - (intOf v).toNat)
 case atStart => exact ⟨0, by omega, rfl, fun l hl => (by cases hl), by trivial⟩
 case round =>
  obtain ⟨j, hj, rfl, hall, rfl⟩ := hrel
  have HA : Hid (∀ l ∈ rowsOf (ds.take j), atB l i = true) := hall
  clear hall
  by_cases hlt : j < n
  ·
   have hlt' : (j : Int) < n := by omega
   obtain ⟨d, hd⟩ : ∃ d, Hid (ds[j]? = some d) := ⟨_, List.getElem?_eq_getElem (by rw [← HN.out]; exact hlt)⟩
   have hmem : Hid (d.2.2 ∈ rowsOf ds) := List.mem_of_getElem? (rowsOf_get hd.out)
   obtain ⟨hdB, b, o, rfl, hbl, hc⟩ := HL.out.2.2 j d hd.out
   obtain ⟨q, hq⟩ : ∃ q, Hid (d.2.2[i]? = some q) := ⟨_, List.getElem?_eq_getElem (HI.out _ hmem.out)⟩
   obtain ⟨b2, o2, ha2, hbl2, hc2⟩ := hdB.2.2 i q hq.out
   have hik : i < d.2.2.length := HI.out _ hmem.out
   rw [ha2] at hc
   obtain ⟨k, hk⟩ : ∃ k, k = d.2.2.length := ⟨_, rfl⟩
   rw [← hk] at hc hik
   have hik' : (i : Int) < k := by omega
   generalize d.2.1 = dc at hc hdB
   clear hdB hk
   cases q with
   | false =>
    have hE : Hid (allB (rowsOf ds) i = false) := allB_no hmem.out (atB_some hq.out)
    go_wp2
    go_ret
    exact ⟨ret_bool hE.out.symm, rfl⟩
   | true =>
    have hE : Hid (∀ l ∈ rowsOf (ds.take (j + 1)), atB l i = true) := by
     intro l hl
     rw [take_rows hd.out] at hl
     rcases List.mem_append.1 hl with h | h
     ·
      exact HA.out l h
     ·
      obtain rfl : l = d.2.2 := by simpa using h
      exact atB_some hq.out
    go_wp2
    go_roundw
    case rel => exact ⟨j + 1, by omega, by go_num, hE.out, by trivial⟩
    case measure => simp [intOf]; omega
  ·
   obtain rfl : j = n := by omega
   have hE : Hid (allB (rowsOf ds) i = true) := allB_yes (by have := HA.out; rw [take_all HN.out] at this; exact this)
   go_wp2
   go_ret
   exact ⟨ret_bool hE.out.symm, rfl⟩
theorem countN_succ (ls : List (List Bool)) (n : Nat) : countN ls (n + 1) = countN ls n + bn (allB ls n) := rfl
set_option maxHeartbeats 1000000 in
theorem count_any (a : Option Addr) (c : Nat) (ds : List (Option Addr × Nat × List Bool)) (w : World) (hL : IsL w a c ds) :
  Calls Tryz.prog 108 #[.slice a ds.length c] w fun e w' => e = .returned (.int .i64 (countB (rowsOf ds))) ∧ w = w' := by
 obtain ⟨n, hn⟩ : ∃ n, n = ds.length := ⟨_, rfl⟩
 obtain ⟨k, hk⟩ : ∃ k, k = shortestB (rowsOf ds) := ⟨_, rfl⟩
 have hnb : n ≤ 9223372036854775807 := by rw [hn]; exact Nat.le_trans hL.1 hL.2.1
 have hkb : k ≤ 9223372036854775807 := by
  rw [hk]
  by_cases h : rowsOf ds = []
  ·
   rw [h]; exact Nat.zero_le _
  ·
   obtain ⟨l, hl, he⟩ := shortestB_is h
   rw [← he]; exact hL.rows_le l hl
 have cs : ∀ W, w = W → Calls Tryz.prog 144 #[.slice a n c] W fun e w' => e = .returned (.int .i64 k) ∧ w = w' := by
  rintro W rfl; rw [hn, hk]; exact shortest_any a c ds w hL
 have ca : ∀ (i : Nat) W, i < k → w = W → Calls Tryz.prog 145 #[.slice a n c, .int .i64 i] W fun e w' => e = .returned (.bool (allB (rowsOf ds) i)) ∧ w = w' := by
  rintro i W hi rfl; rw [hn]; exact allHave_any a c ds i w hL fun l hl => by have := shortestB_le _ l hl; omega
 have HK : Hid (k = shortestB (rowsOf ds)) := hk
 rw [← hn]
 clear hL hn hk
 go_enter Tryz.func108, Tryz.ntmps108
 go_wp2_with (go_at_call 144; refine (cs _ rfl).mono ?_; rintro e w' ⟨rfl, rfl⟩)
 go_loopw [3, 7] (fun u v wr => ∃ j m : Nat, j ≤ k ∧ v = .int .i64 j ∧ m = countN (rowsOf ds) j ∧ m ≤ j ∧ u = .int .i64 m ∧ w = wr) (fun _ v _ => k - (intOf v).toNat)
 case atStart => exact ⟨0, 0, by omega, rfl, rfl, Nat.le_refl _, rfl, by trivial⟩
 case round =>
  obtain ⟨j, m, hj, rfl, hm, hmj, rfl, rfl⟩ := hrel
  have HM : Hid (m = countN (rowsOf ds) j) := hm
  clear hm
  by_cases hlt : j < k
  ·
   have hlt' : (j : Int) < k := by omega
   obtain ⟨q, hq⟩ : ∃ q, Hid (allB (rowsOf ds) j = q) := ⟨_, rfl⟩
   have ca' : ∀ W, w = W → Calls Tryz.prog 145 #[.slice a n c, .int .i64 j] W fun e w' => e = .returned (.bool q) ∧ w = w' := by
    intro W hW; rw [← hq.out]; exact ca j W hlt hW
   have hnx : Hid (countN (rowsOf ds) (j + 1) = m + bn q) := by show _ = _; rw [countN_succ, ← HM.out, hq.out]
   cases q with
   | true =>
    go_wp2_with (go_at_call 145; refine (ca' _ rfl).mono ?_; rintro e w' ⟨rfl, rfl⟩)
    go_roundw
    case rel => exact ⟨j + 1, m + 1, by omega, by go_num, hnx.out.symm, by omega, by go_num, by trivial⟩
    case measure => simp [intOf]; omega
   | false =>
    go_wp2_with (go_at_call 145; refine (ca' _ rfl).mono ?_; rintro e w' ⟨rfl, rfl⟩)
    go_roundw
    case rel => exact ⟨j + 1, m, by omega, by go_num, hnx.out.symm, by omega, rfl, by trivial⟩
    case measure => simp [intOf]; omega
  ·
   obtain rfl : j = k := by omega
   have he : Hid ((m : Int) = ((countB (rowsOf ds) : Nat) : Int)) := by show _ = _; rw [HM.out, HK.out, countB_short]
   go_wp2
   go_ret
   exact ⟨ret_int he.out, rfl⟩
def anyB (ls : List (List Bool)) (i : Nat) : Bool := ls.any fun l => atB l i
theorem anyB_how {ls : List (List Bool)} {i : Nat} : anyB ls i = false ↔ howB ls i = 0 := by
 rw [howB_none]
 unfold anyB
 rw [List.any_eq_false]
def eithN (N : Nat) (ls : List (List Bool)) (x : List Bool) (t : Nat) : List Bool := (List.range N).map fun i => anyB ls i || (decide (i < t) && atB x i)
theorem eithN_length (N : Nat) (ls : List (List Bool)) (x : List Bool) (t : Nat) : (eithN N ls x t).length = N := by simp [eithN]
theorem eithN_get {N i : Nat} (ls : List (List Bool)) (x : List Bool) (t : Nat) (h : i < N) : (eithN N ls x t)[i]? = some (anyB ls i || (decide (i < t) && atB x i)) := by
 unfold eithN; rw [List.getElem?_map, List.getElem?_range h]; rfl
theorem eithN_zero (N : Nat) (x : List Bool) : eithN N [] x 0 = List.replicate N false := by
 unfold eithN
 apply List.ext_getElem?
 intro i
 by_cases h : i < N
 ·
  rw [List.getElem?_map, List.getElem?_range h, List.getElem?_replicate, if_pos h]; simp [anyB]
 ·
  rw [List.getElem?_eq_none (by simp; omega), List.getElem?_eq_none (by simp; omega)]
theorem eithN_start (N : Nat) (ls : List (List Bool)) (x y : List Bool) : eithN N ls x 0 = eithN N ls y 0 := by
 unfold eithN; apply List.map_congr_left; intro i _; simp
theorem eithN_next (N : Nat) (ls : List (List Bool)) (x y : List Bool) (t : Nat) (ht : t = x.length) : eithN N ls x t = eithN N (ls ++ [x]) y 0 := by
 unfold eithN
 apply List.map_congr_left
 intro i _
 have : anyB (ls ++ [x]) i = (anyB ls i || atB x i) := by unfold anyB; rw [List.any_append]; simp
 rw [this]
 by_cases h : i < t
 ·
  simp [h]
 ·
  rw [atB_past (by omega)]; simp
theorem eithN_set {N t : Nat} (ls : List (List Bool)) (x : List Bool) (h : t < N) : (eithN N ls x t).set t (anyB ls t || atB x t) = eithN N ls x (t + 1) := by
 apply List.ext_getElem?
 intro i
 by_cases hi : i < N
 ·
  rw [eithN_get ls x (t + 1) hi]
  by_cases e : t = i
  ·
   subst e
   rw [List.getElem?_set_self (by rw [eithN_length]; exact h)]
   simp
  ·
   rw [List.getElem?_set_ne e, eithN_get ls x t hi, show decide (i < t + 1) = decide (i < t) from by rw [decide_eq_decide]; omega]
 ·
  rw [List.getElem?_eq_none (by rw [List.length_set, eithN_length]; omega), List.getElem?_eq_none (by rw [eithN_length]; omega)]
set_option maxRecDepth 20000 in
set_option maxHeartbeats 2000000 in
theorem either_any (a : Option Addr) (c : Nat) (ds : List (Option Addr × Nat × List Bool)) (w : World) (hL : IsL w a c ds) (hb : ∀ l ∈ rowsOf ds, l.length ≤ 4096) :
  Calls Tryz.prog 109 #[.slice a ds.length c] w fun e w' => e = .returned (.slice (some ⟨w.heap.size, 0, none⟩) (longest (rowsOf ds)) (longest (rowsOf ds))) ∧ RowT w' w.heap.size (longest (rowsOf ds)) (eithN (longest (rowsOf ds)) (rowsOf ds) [] 0) ∧ Below w.heap.size w w' := by
 obtain ⟨n, hn⟩ : ∃ n, n = ds.length := ⟨_, rfl⟩
 obtain ⟨N, hN⟩ : ∃ k, k = longest (rowsOf ds) := ⟨_, rfl⟩
 have hnb : n ≤ 9223372036854775807 := by rw [hn]; exact Nat.le_trans hL.1 hL.2.1
 have hNb : N ≤ 4096 := by rw [hN]; exact longest_bound hb
 have cl : ∀ W, w = W → Calls Tryz.prog 146 #[.slice a n c] W fun e w' => e = .returned (.int .i64 N) ∧ w = w' := by
  rintro W rfl; rw [hn, hN]; exact longest_any a c ds w hL
 have HL : Hid (IsL w a c ds) := hL
 have HN : Hid (n = ds.length) := hn
 have HX : Hid (∀ l ∈ rowsOf ds, l.length ≤ N) := fun l hl => by rw [hN]; exact longest_le hl
 obtain ⟨Z, hmk, hZ⟩ : ∃ Z : Array Value, (∀ W : World, (Instr.makeSlice 36 (.int .i64 N) (.int .i64 N)).run Tryz.prog W = .ok (.slice (some ⟨W.heap.size, 0, none⟩) N N) (W.alloc (.cells Z 4))) ∧ Hid (Z = (List.replicate N (Value.bool false)).toArray) :=
  ⟨madeCells #[.bool false] N, fun W => run_make_row' (P := Tryz.prog) 36 4 (.bool false) 1 Tryz.underlying36 Tryz.info4 rfl .i64 .i64 N (by omega) (by omega) W, made_one _ N⟩
 have HR : Hid (RowT (w.alloc (.cells Z 4)) w.heap.size N (eithN N (rowsOf (ds.take 0)) [] 0)) := by
  show RowT _ _ _ _
  rw [show rowsOf (ds.take 0) = [] from rfl, eithN_zero]
  exact RowT.new w N hZ.out rfl (by unfold maxLen; omega)
 rw [← hn, ← hN]
 clear hL hn hN hb
 go_enter Tryz.func109, Tryz.ntmps109
 go_wp2_with (go_at_call 146; refine (cl _ rfl).mono ?_; rintro e w' ⟨rfl, rfl⟩)
 clear cl
 go_loopw [11] (fun v wr => ∃ j : Nat, j ≤ n ∧ v = .int .i64 j ∧ RowT wr w.heap.size N (eithN N (rowsOf (ds.take j)) [] 0) ∧ Below w.heap.size w wr) (fun v _ => n - (intOf v).toNat)
 case atStart => exact ⟨0, by omega, rfl, HR.out, (Below.refl _ _).alloc (Nat.le_refl _) _⟩
 case round =>
  obtain ⟨j, hj, rfl, hrow, hbel⟩ := hrel
  have HW : Hid (RowT wr w.heap.size N (eithN N (rowsOf (ds.take j)) [] 0)) := hrow
  clear hrow
  by_cases hlt : j < n
  ·
   have hlt' : (j : Int) < n := by omega
   obtain ⟨d, hd⟩ : ∃ d, Hid (ds[j]? = some d) := ⟨_, List.getElem?_eq_getElem (by rw [← HN.out]; exact hlt)⟩
   have hmem : Hid (d.2.2 ∈ rowsOf ds) := List.mem_of_getElem? (rowsOf_get hd.out)
   obtain ⟨hdB, b, o, rfl, hbl, hc0⟩ := HL.out.2.2 j d hd.out
   have hnx : Hid (rowsOf (ds.take (j + 1)) = rowsOf (ds.take j) ++ [d.2.2]) := take_rows hd.out
   have hxN := HX.out _ hmem.out
   clear hd hmem
   obtain ⟨da, dc, x⟩ := d
   simp only at hdB hc0 hnx hxN
   obtain ⟨k, hk⟩ : ∃ k, k = x.length := ⟨_, rfl⟩
   have HK : Hid (k = x.length) := hk
   have HD : Hid (IsB w da dc x) := hdB
   rw [← hk] at hc0 hxN
   clear hdB hk
   have hc := cell_below hbel hc0
   generalize rowsOf (ds.take j) = ls at HW hnx
   have HW0 : Hid (RowT wr w.heap.size N (eithN N ls x 0)) := by show RowT _ _ _ _; rw [eithN_start N ls x []]; exact HW.out
   go_wp2
   go_loopw [19] (fun v wq => ∃ t : Nat, t ≤ k ∧ v = .int .i64 t ∧ RowT wq w.heap.size N (eithN N ls x t) ∧ Below w.heap.size w wq) (fun v _ => k - (intOf v).toNat)
   case atStart => exact ⟨0, by omega, rfl, HW0.out, hbel⟩
   case round =>
    obtain ⟨t, ht, rfl, hrow, hbel2⟩ := hrel
    have HT : Hid (RowT wr w.heap.size N (eithN N ls x t)) := hrow
    clear hrow
    by_cases htl : t < k
    ·
     have htl' : (t : Int) < k := by omega
     have htN : t < N := by omega
     have htN' : (t : Int) < N := by omega
     obtain ⟨y, hy⟩ : ∃ y, Hid (anyB ls t = y) := ⟨_, rfl⟩
     have hyg : Hid ((eithN N ls x t)[t]? = some y) := by show _ = _; rw [eithN_get ls x t htN, hy.out]; simp
     obtain ⟨hcy, hfy⟩ := HT.out.cell hyg.out
     obtain ⟨q, hq⟩ : ∃ q, Hid (x[t]? = some q) := ⟨_, List.getElem?_eq_getElem (by rw [← HK.out]; exact htl)⟩
     have hset : Hid (RowT (wr.setCell ⟨w.heap.size, t, none⟩ (.bool (y || q))) w.heap.size N (eithN N ls x (t + 1))) := by
      show RowT _ _ _ _
      rw [← eithN_set ls x htN, hy.out, atB_some hq.out]
      exact HT.out.set t _
     obtain ⟨b2, o2, ha2, hbl2, hc20⟩ := HD.out.2.2 t q hq.out
     have hc2 := cell_below hbel2 hc20
     have hcr := cell_below hbel2 hc0
     rw [ha2] at hcr
     clear hq hy hyg HW0 HW
     cases y with
     | true =>
      rw [Bool.true_or] at hset
      go_wp2
      go_roundw
      case rel => exact ⟨t + 1, by omega, by go_num, hset.out, hbel2.setCell (p := ⟨w.heap.size, t, none⟩) (Nat.le_refl _) _⟩
      case measure => simp [intOf]; omega
     | false =>
      rw [Bool.false_or] at hset
      go_wp2
      go_roundw
      case rel => exact ⟨t + 1, by omega, by go_num, hset.out, hbel2.setCell (p := ⟨w.heap.size, t, none⟩) (Nat.le_refl _) _⟩
      case measure => simp [intOf]; omega
    ·
     obtain rfl : t = k := by omega
     have hfin : Hid (RowT wr w.heap.size N (eithN N (rowsOf (ds.take (j + 1))) [] 0)) := by
      show RowT _ _ _ _
      rw [hnx.out, ← eithN_next N ls x [] t HK.out]
      exact HT.out
     go_wp2
     go_roundw
     case rel => exact ⟨j + 1, by omega, by go_num, hfin.out, hbel2⟩
     case measure => simp [intOf]; omega
  ·
   obtain rfl : j = n := by omega
   have hR2 : Hid (RowT wr w.heap.size N (eithN N (rowsOf ds) [] 0)) := by have := HW.out; rw [take_all HN.out] at this; exact this
   go_wp2
   go_ret
   exact ⟨rfl, hR2.out, hbel⟩
theorem eithN_all (N : Nat) (ls : List (List Bool)) {i : Nat} (h : i < N) : (eithN N ls [] 0)[i]? = some (anyB ls i) := by
 rw [eithN_get ls [] 0 h]; simp
set_option maxHeartbeats 1000000 in
theorem first_any (fr : Int) (a : Option Addr) (c : Nat) (ds : List (Option Addr × Nat × List Bool)) (w : World) (hL : IsL w a c ds) (hb : ∀ l ∈ rowsOf ds, l.length ≤ 4096) :
  Calls Tryz.prog 62 #[.int .i64 fr, .slice a ds.length c] w fun e w' => e = .returned (.int .i64 (firstB fr (rowsOf ds))) ∧ Below w.heap.size w w' := by
 obtain ⟨n, hn⟩ : ∃ n, n = ds.length := ⟨_, rfl⟩
 obtain ⟨ls, hls⟩ : ∃ ls, ls = rowsOf ds := ⟨_, rfl⟩
 obtain ⟨N, hN⟩ : ∃ k, Hid (k = longest ls) := ⟨_, rfl⟩
 have hNb : N ≤ 4096 := by rw [hN.out, hls]; exact longest_bound hb
 have ce : ∀ W, w = W → Calls Tryz.prog 109 #[.slice a n c] W fun e w' => e = .returned (.slice (some ⟨w.heap.size, 0, none⟩) N N) ∧ RowT w' w.heap.size N (eithN N ls [] 0) ∧ Below w.heap.size w w' := by
  rintro W rfl; rw [hn, hN.out, hls]; exact either_any a c ds w hL hb
 rw [← hn, ← hls]
 clear hL hn hb hls
 go_enter Tryz.func62, Tryz.ntmps62
 go_wp2_with (go_at_call 109; refine (ce _ rfl).mono ?_; rintro e w1 ⟨rfl, hr, hb⟩; have HR : Hid (RowT w1 w.heap.size N (eithN N ls [] 0)) := hr; clear ce hr)
 go_loopw [11] (fun v wr => ∃ j : Nat, j ≤ N ∧ v = .int .i64 j ∧ (∀ i : Nat, fr ≤ i → i < j → howB ls i ≠ 0) ∧ w1 = wr) (fun v _ => N - (intOf v).toNat)
 case atStart => exact ⟨0, by omega, rfl, fun i _ hi => by omega, by trivial⟩
 case round =>
  obtain ⟨j, hj, rfl, hno, rfl⟩ := hrel
  have HNO : Hid (∀ i : Nat, fr ≤ i → i < j → howB ls i ≠ 0) := hno
  clear hno
  by_cases hlt : j < N
  ·
   have hlt' : (j : Int) < N := by omega
   obtain ⟨q, hq⟩ : ∃ q, Hid (anyB ls j = q) := ⟨_, rfl⟩
   obtain ⟨hc, -⟩ := HR.out.cell (eithN_all N ls hlt)
   rw [hq.out] at hc
   by_cases hf : fr ≤ j
   ·
    cases q with
    | false =>
     have he : Hid ((j : Int) = firstB fr ls) := (firstB_is hf (by rw [← hN.out]; exact hlt) (anyB_how.1 hq.out) HNO.out).symm
     go_wp2
     go_ret
     exact ⟨ret_int he.out, hb⟩
    | true =>
     have hnx : Hid (∀ i : Nat, fr ≤ i → i < j + 1 → howB ls i ≠ 0) := by
      intro i h1 h2
      by_cases e : i = j
      ·
       rw [e]; intro hh; rw [anyB_how.2 hh] at hq; cases hq.out
      ·
       exact HNO.out i h1 (by omega)
     go_wp2
     go_roundw
     case rel => exact ⟨j + 1, by omega, by go_num, hnx.out, by trivial⟩
     case measure => simp [intOf]; omega
   ·
    have hnx : Hid (∀ i : Nat, fr ≤ i → i < j + 1 → howB ls i ≠ 0) := by
     intro i h1 h2
     by_cases e : i = j
     ·
      rw [e] at h1; exact absurd h1 hf
     ·
      exact HNO.out i h1 (by omega)
    go_wp2
    go_roundw
    case rel => exact ⟨j + 1, by omega, by go_num, hnx.out, by trivial⟩
    case measure => simp [intOf]; omega
  ·
   obtain rfl : j = N := by omega
   have he : Hid ((-1 : Int) = firstB fr ls) := (firstB_none fun i h1 h2 => HNO.out i h1 (by rw [hN.out]; exact h2)).symm
   go_wp2
   go_ret
   exact ⟨ret_int he.out, hb⟩
def OwnT (base : Nat) (w : World) (a : Option Addr) (cap : Nat) (l : List Bool) : Prop :=
 (a = none ∧ cap = 0 ∧ l = []) ∨ ∃ g, a = some ⟨g, 0, none⟩ ∧ base ≤ g ∧ RowT w g cap l
theorem OwnT.isB {base : Nat} {w : World} {a : Option Addr} {cap : Nat} {l : List Bool} (h : OwnT base w a cap l) : IsB w a cap l := by
 rcases h with ⟨rfl, rfl, rfl⟩ | ⟨g, rfl, _, hr⟩
 ·
  exact IsB_nil _
 ·
  exact hr.isB
theorem OwnT.below {base : Nat} {w w' : World} {a : Option Addr} {cap : Nat} {l : List Bool} (h : OwnT base w a cap l) (hb : Below w.heap.size w w') : OwnT base w' a cap l := by
 rcases h with h | ⟨g, h1, h2, hr⟩
 ·
  exact .inl h
 ·
  exact .inr ⟨g, h1, h2, hr.below hb⟩
theorem OwnT.some {base : Nat} {w : World} {a : Option Addr} {cap : Nat} {l : List Bool} (h : OwnT base w a cap l) (hl : 0 < l.length) : ∃ g, a = some ⟨g, 0, none⟩ ∧ base ≤ g ∧ RowT w g cap l := by
 rcases h with ⟨_, _, rfl⟩ | h
 ·
  cases hl
 ·
  exact h
theorem isB_src {w : World} {ad : Addr} {c : Nat} {l : List Bool} (h : IsB w (some ad) c l) : ∀ j u, (l.map Value.bool)[j]? = some u → w.cell? (ad.add j) = some u := by
 intro j u hj
 rw [List.getElem?_map] at hj
 obtain ⟨x, hx, rfl⟩ := Option.map_eq_some_iff.1 hj
 obtain ⟨b', o', ha, _, hc⟩ := h.2.2 j x hx
 cases ha
 rw [at_add]
 exact hc
theorem run_append_none {w : World} (base : Nat) (t ty e : TypeId) (i : TypeInfo) (size m c : Nat) (hm : m = 0) (ht : Tryz.prog.underlying t = some (.slice e)) (hi : Tryz.prog.info? e = some i)
  (v : Value) (n : Nat) (xs : List Value) (hown : w.ownsRow base e size v n xs) :
  (Builtin.append_ #[t, t] ty #[v, .slice none m c]).run Tryz.prog w = .ok v w := by
 subst hm
 rcases hown.2 with ⟨rfl, rfl⟩ | ⟨g, cap, cur, rfl, _, _, hnc, _⟩
 ·
  simp [Builtin.append_, run_underlying ht, sizeOf, typeInfo, hi, Builtin.lenOf, Builtin.firstCells]
 ·
  simp [Builtin.append_, run_underlying ht, sizeOf, typeInfo, hi, Builtin.lenOf, Builtin.firstCells, hnc, storeCells]
theorem copyT (W : World) (a : Option Addr) (c n : Nat) (l : List Bool) (hn : n = l.length) (hB : IsB W a c l) (hz : n ≤ 140737488355328) (ty : TypeId) :
  ∃ g cap w', (Builtin.append_ #[36, 36] ty #[.slice (some ⟨W.heap.size, 0, none⟩) 0 0, .slice a n c]).run Tryz.prog (W.alloc (.cells #[] 4)) = .ok (.slice (some ⟨g, 0, none⟩) n cap) w' ∧ W.heap.size ≤ g ∧ RowT w' g cap l ∧ Below W.heap.size W w' := by
 subst hn
 obtain ⟨i0, hi, hz0, hz1, hz2⟩ := info_parts Tryz.info4
 have hown := World.ownsRow_made (base := W.heap.size) (e := 4) (size := 1) W #[] 0 (Nat.le_refl _) (Nat.zero_le _) rfl
 have hB0 := (Below.refl W.heap.size W).alloc (Nat.le_refl _) (.cells #[] 4)
 cases a with
 | none =>
  have h0 : l = [] := by
   rcases Nat.eq_zero_or_pos l.length with h | h
   ·
    exact List.length_eq_zero_iff.1 h
   ·
    obtain ⟨b, o, hh, _⟩ := hB.some h
    cases hh
  subst h0
  refine ⟨W.heap.size, 0, _, run_append_none W.heap.size _ ty _ i0 1 0 c rfl Tryz.underlying36 hi _ _ _ hown, Nat.le_refl _, ⟨#[], ?_, rfl, Nat.le_refl _, Nat.zero_le _, rfl⟩, hB0⟩
  exact heap_new W _
 | some ad =>
  obtain ⟨v', w', hr, h2, h3, h4⟩ := run_append_own (P := Tryz.prog) (W.alloc (.cells #[] 4)) W.heap.size 36 ty 4 i0 _ 1 1 Tryz.underlying36 hi hz0 hz1 hz2 rfl (by decide) _ 0 _ hown ad l.length c (l.map Value.bool) (by simp) (isB_src (hB.below hB0))
   (fun u hu => by obtain ⟨x, _, rfl⟩ := List.mem_map.1 hu; rfl) (by have := hB.1; have := hB.2.1; unfold maxLen at *; omega) (by omega) (by simp)
  rcases h2.2 with ⟨h, _⟩ | ⟨g, cap, cur, h, hg, hcur, hnc, hcm, hsz, htk⟩
  ·
   exact absurd (h4.1 h).1 (by simp)
  ·
   subst h
   refine ⟨g, cap, w', by rw [hr, Nat.zero_add], hg, ⟨cur, hcur, by simpa using htk, by omega, hcm, by omega⟩, hB0.grown h3 (by simp) (by intro k hk; simp [Value.ownBlock] at hk; omega)⟩
set_option maxHeartbeats 1000000 in
theorem clone_any (a : Option Addr) (c n : Nat) (l : List Bool) (w : World) (hn : n = l.length) (hB : IsB w a c l) (h2 : n ≤ 4096) :
  Calls Tryz.prog 76 #[.slice a n c] w fun e w' => ∃ a' cap, e = .returned (.slice a' n cap) ∧ OwnT w.heap.size w' a' cap l ∧ Below w.heap.size w w' := by
 have q : ∀ (w : World) (a : Option Addr) (n c n' c' : Nat), (binOp .eql 36 (.slice a n c) (.slice none n' c')).run Tryz.prog w = .ok (.bool a.isNone) w := fun w a n c n' c' => Lib.run_eql_slice_nil w _ _ a n c n' c' Tryz.underlying36
 cases a with
 | none =>
  have h0 : l = [] := by
   rcases Nat.eq_zero_or_pos l.length with h | h
   ·
    exact List.length_eq_zero_iff.1 h
   ·
    obtain ⟨b, o, hh, _⟩ := hB.some h
    cases hh
  subst h0
  obtain rfl : n = 0 := hn
  clear hB
  go_enter Tryz.func76, Tryz.ntmps76
  go_wp2
  go_ret
  exact ⟨none, 0, rfl, .inl ⟨rfl, rfl, rfl⟩, Below.refl _ _⟩
 | some ad =>
  obtain ⟨g, cap, w1, hrun, hg, hrow, hb⟩ := copyT w (some ad) c n l hn hB (by omega) 36
  have HR : Hid (RowT w1 g cap l) := hrow
  clear hrow hB hn
  go_enter Tryz.func76, Tryz.ntmps76
  go_wp2_with (at_builtin; refine Lib.wpList_append_run _ rfl _ _ _ _ rfl _ _ rfl rfl _ _ hrun ?_)
  go_ret
  exact ⟨some ⟨g, 0, none⟩, cap, rfl, .inr ⟨g, rfl, hg, HR.out⟩, hb⟩
theorem placesOk_take {l : List Bool} {ps : List Int} {j : Nat} {p : Int} (h : placesOk l (ps.take j) = true) (hp : ps[j]? = some p) (h0 : 0 ≤ p) (h1 : p < l.length) : placesOk l (ps.take (j + 1)) = true := by
 unfold placesOk at h ⊢
 rw [List.take_add_one, hp, List.all_append, h]
 simp [h0, h1]
theorem placesOk_bad {l : List Bool} {ps : List Int} {j : Nat} {p : Int} (hp : ps[j]? = some p) (h : p < 0 ∨ (l.length : Int) ≤ p) : placesOk l ps = false := by
 unfold placesOk
 rw [List.all_eq_false]
 refine ⟨p, List.mem_of_getElem? hp, ?_⟩
 simp
 omega
theorem setB_take (l : List Bool) (is : Bool) {ps : List Int} {j : Nat} {p : Int} (hp : ps[j]? = some p) : setB l is (ps.take (j + 1)) = (setB l is (ps.take j)).set p.toNat is := by
 rw [List.take_add_one, hp, setB_append]; rfl
theorem withE_bad {l : List Bool} {ps : List Int} (h : placesOk l ps = false) : withE l ps = 1 := by unfold withE; rw [h]; rfl
theorem withL_bad {l : List Bool} {is : Bool} {ps : List Int} (h : placesOk l ps = false) : withL l is ps = [] := by unfold withL; rw [h]; rfl
theorem withE_ok {l : List Bool} {ps : List Int} (h : placesOk l ps = true) : withE l ps = 0 := by unfold withE; rw [h]; rfl
theorem withL_ok {l : List Bool} {is : Bool} {ps : List Int} (h : placesOk l ps = true) : withL l is ps = setB l is ps := by unfold withL; rw [h]; rfl
set_option maxRecDepth 20000 in
set_option maxHeartbeats 1000000 in
theorem with_own (a ap : Option Addr) (c cp : Nat) (l : List Bool) (is : Bool) (ps : List Int) (w : World) (hB : IsB w a c l) (hI : IsI w ap cp ps) (hl : l.length ≤ 4096) :
  Calls Tryz.prog 63 #[.slice a l.length c, .bool is, .slice ap ps.length cp] w fun e w' => ∃ a' c', e = .returned (.tuple #[.slice a' (withL l is ps).length c', .int .i64 (withE l ps)]) ∧ OwnT w.heap.size w' a' c' (withL l is ps) ∧ Below w.heap.size w w' := by
 obtain ⟨n, hn⟩ : ∃ n, n = l.length := ⟨_, rfl⟩
 obtain ⟨k, hk⟩ : ∃ n, n = ps.length := ⟨_, rfl⟩
 have hkb : k ≤ 9223372036854775807 := by rw [hk]; exact Nat.le_trans hI.1 hI.2.1
 have hnb : n ≤ 4096 := by omega
 have HI : Hid (IsI w ap cp ps) := hI
 have HN : Hid (n = l.length) := hn
 have HK : Hid (k = ps.length) := hk
 have cc := clone_any a c n l w hn hB hnb
 rw [← hn, ← hk]
 clear hB hI hn hk hl
 go_enter Tryz.func63, Tryz.ntmps63
 go_wp2_with (go_at_call 76; refine cc.mono ?_; rintro e w1 ⟨a1, d1, rfl, ho, hb⟩; have HO : Hid (OwnT w.heap.size w1 a1 d1 l) := ho; clear ho cc)
 go_loopw [15] (fun v wr => ∃ j : Nat, j ≤ k ∧ v = .int .i64 j ∧ placesOk l (ps.take j) = true ∧ OwnT w.heap.size wr a1 d1 (setB l is (ps.take j)) ∧ Below w.heap.size w wr) (fun v _ => k - (intOf v).toNat)
 case atStart => exact ⟨0, by omega, rfl, rfl, HO.out, hb⟩
 case round =>
  obtain ⟨j, hj, rfl, hok, hown, hbel⟩ := hrel
  have HO1 : Hid (OwnT w.heap.size wr a1 d1 (setB l is (ps.take j))) := hown
  have HK1 : Hid (placesOk l (ps.take j) = true) := hok
  clear hown hok
  by_cases hlt : j < k
  ·
   have hlt' : (j : Int) < k := by omega
   obtain ⟨p, hp⟩ : ∃ p, Hid (ps[j]? = some p) := ⟨_, List.getElem?_eq_getElem (by rw [← HK.out]; exact hlt)⟩
   obtain ⟨b, o, rfl, hbl, hc0⟩ := HI.out.2.2 j p hp.out
   have hc := cell_below hbel hc0
   by_cases h0 : p < 0
   ·
    have hE : Hid (placesOk l ps = false) := placesOk_bad hp.out (.inl h0)
    go_wp2
    go_ret2
    exact ⟨none, 0, by rw [withE_bad hE.out, withL_bad hE.out]; rfl, by rw [withL_bad hE.out]; exact .inl ⟨rfl, rfl, rfl⟩, hbel⟩
   ·
    by_cases h1 : (n : Int) ≤ p
    ·
     have hE : Hid (placesOk l ps = false) := placesOk_bad hp.out (.inr (by rw [← HN.out]; exact h1))
     go_wp2
     go_ret2
     exact ⟨none, 0, by rw [withE_bad hE.out, withL_bad hE.out]; rfl, by rw [withL_bad hE.out]; exact .inl ⟨rfl, rfl, rfl⟩, hbel⟩
    ·
     obtain ⟨q, rfl⟩ : ∃ q : Nat, p = q := ⟨p.toNat, by omega⟩
     have hqn : q < n := by omega
     have hqn' : (q : Int) < n := by omega
     have hql : q < (setB l is (ps.take j)).length := by rw [setB_length, ← HN.out]; exact hqn
     obtain ⟨g, rfl, hg, hrow⟩ := HO1.out.some (by omega)
     obtain ⟨hcx, hfx⟩ := hrow.cell (List.getElem?_eq_getElem hql)
     generalize (setB l is (ps.take j))[q]'_ = x at hcx
     have hset : Hid (OwnT w.heap.size (wr.setCell ⟨g, q, none⟩ (.bool is)) (some ⟨g, 0, none⟩) d1 (setB l is (ps.take (j + 1)))) := by
      rw [setB_take l is hp.out]
      exact .inr ⟨g, rfl, hg, hrow.set q is⟩
     have hok2 : Hid (placesOk l (ps.take (j + 1)) = true) := placesOk_take HK1.out hp.out (by omega) (by rw [← HN.out]; exact hqn')
     clear hrow
     go_wp2
     go_roundw
     case rel => exact ⟨j + 1, by omega, by go_num, hok2.out, hset.out, hbel.setCell (p := ⟨g, q, none⟩) hg _⟩
     case measure => simp [intOf]; omega
  ·
   obtain rfl : j = k := by omega
   have hE : Hid (placesOk l ps = true) := by have := HK1.out; rw [HK.out, List.take_length] at this; exact this
   have hS : Hid (OwnT w.heap.size wr a1 d1 (setB l is ps)) := by have := HO1.out; rw [HK.out, List.take_length] at this; exact this
   go_wp2
   go_ret2
   exact ⟨a1, d1, by rw [withE_ok hE.out, withL_ok hE.out, setB_length, ← HN.out]; rfl, by rw [withL_ok hE.out]; exact hS.out, hbel⟩
theorem isL_two {W : World} {a b : Option Addr} {c d n m : Nat} {l k : List Bool} (hn : n = l.length) (hm : m = k.length) (h : IsB W a c l) (h' : IsB W b d k) : IsL (W.alloc (.cells #[.slice a n c, .slice b m d] 36)) (some ⟨W.heap.size, 0, none⟩) 2 [(a, c, l), (b, d, k)] := by
 subst hn hm
 have hB := (Below.refl W.heap.size W).alloc (Nat.le_refl _) (.cells #[.slice a l.length c, .slice b k.length d] 36)
 refine ⟨Nat.le_refl _, by unfold maxLen; omega, fun j x hd => ?_⟩
 match j, hd with
 | 0, hd =>
  simp at hd
  subst hd
  exact ⟨h.below hB, W.heap.size, 0, rfl, by simp, World.cell?_alloc_at _ _ _ _ rfl⟩
 | 1, hd =>
  simp at hd
  subst hd
  exact ⟨h'.below hB, W.heap.size, 0, rfl, by simp, World.cell?_alloc_at _ _ _ _ rfl⟩
theorem count_two (W : World) (b b' : Option Addr) (d d' n n' : Nat) (l l' : List Bool) (hn : n = l.length) (hn' : n' = l'.length) (h : IsB W b d l) (h' : IsB W b' d' l') :
  Calls Tryz.prog 108 #[.slice (some ⟨W.heap.size, 0, none⟩) 2 2] (W.alloc (.cells #[.slice b n d, .slice b' n' d'] 36)) fun e w' => e = .returned (.int .i64 (countB [l, l'])) ∧ Below W.heap.size W w' :=
 (count_any _ _ _ _ (isL_two hn hn' h h')).mono fun e w' ⟨he, hw⟩ => ⟨he, hw ▸ (Below.refl _ _).alloc (Nat.le_refl _) _⟩
theorem first_two (W : World) (fr : Int) (b b' : Option Addr) (d d' n n' : Nat) (l l' : List Bool) (hn : n = l.length) (hn' : n' = l'.length) (h : IsB W b d l) (h' : IsB W b' d' l') (hl : n ≤ 4096) (hl' : n' ≤ 4096) :
  Calls Tryz.prog 62 #[.int .i64 fr, .slice (some ⟨W.heap.size, 0, none⟩) 2 2] (W.alloc (.cells #[.slice b n d, .slice b' n' d'] 36)) fun e w' => e = .returned (.int .i64 (firstB fr [l, l'])) ∧ Below W.heap.size W w' :=
 (first_any fr _ _ _ _ (isL_two hn hn' h h') (fun x hx => by simp [rowsOf] at hx; rcases hx with rfl | rfl <;> omega)).mono fun e w' ⟨he, hw⟩ => ⟨he, Below.tr ((Below.refl _ _).alloc (Nat.le_refl _) _) hw⟩
theorem with_own_one (W : World) (a : Option Addr) (c n : Nat) (l : List Bool) (is : Bool) (t : Nat) (hn : n = l.length) (h : IsB W a c l) (hl : n ≤ 4096) (ht : t < n) :
  Calls Tryz.prog 63 #[.slice a n c, .bool is, .slice (some ⟨W.heap.size, 0, none⟩) 1 1] (W.alloc (.cells #[.int .i64 t] 3)) fun e w' => ∃ a' c', e = .returned (.tuple #[.slice a' n c', .int .i64 0]) ∧ OwnT W.heap.size w' a' c' (l.set t is) ∧ Below W.heap.size W w' := by
 subst hn
 have hB := (Below.refl W.heap.size W).alloc (Nat.le_refl _) (.cells #[.int .i64 (t : Int)] 3)
 have hok : placesOk l [(t : Int)] = true := by simp [placesOk]; exact ht
 have := with_own a (some ⟨W.heap.size, 0, none⟩) c 1 l is [(t : Int)] _ (h.below hB) (isI_one W t) hl
 rw [withE_ok hok, withL_ok hok] at this
 refine this.mono fun e w' ⟨a', c', he, hI, hb⟩ => ⟨a', c', ?_, ?_, Below.tr hB hb⟩
 ·
  rw [he, setB_length]
 ·
  rcases hI with h | ⟨g, h1, h2, h3⟩
  ·
   exact .inl h
  ·
   exact .inr ⟨g, h1, Nat.le_trans hB.size h2, h3⟩
end Go.Proofs.YtaobfgplheoefaaGreat
namespace Go.Proofs.YtaobfgplheoefaaGreat.Plain
open Go.RowKit
set_option linter.unusedVariables false
def rightA (b n : List Bool) : Bool := decide (b.length = n.length) && decide (24 ≤ n.length) && decide (n.length ≤ 2048) && (List.range 10).all fun i => atB b i && atB n i
theorem rightA_iff (b n : List Bool) : rightA b n = true ↔ b.length = n.length ∧ 24 ≤ n.length ∧ n.length ≤ 2048 ∧ ∀ i, i < 10 → atB b i = true ∧ atB n i = true := by
 unfold rightA
 simp only [Bool.and_eq_true, decide_eq_true_eq, List.all_eq_true, List.mem_range]
 constructor
 ·
  rintro ⟨⟨⟨h1, h2⟩, h3⟩, h4⟩; exact ⟨h1, h2, h3, h4⟩
 ·
  rintro ⟨h1, h2, h3, h4⟩; exact ⟨⟨⟨h1, h2⟩, h3⟩, h4⟩
def freeB (b n : List Bool) (i : Nat) : Bool := decide (i < n.length) && (!atB n i && !atB b i)
theorem freeB_iff (b n : List Bool) (i : Nat) : freeB b n i = true ↔ i < n.length ∧ atB n i = false ∧ atB b i = false := by
 unfold freeB
 simp
theorem freeB_how {b n : List Bool} {i : Nat} (hi : i < n.length) : freeB b n i = true ↔ howB [b, n] i = 0 := by
 rw [freeB_iff, howB_none]
 constructor
 ·
  rintro ⟨_, h1, h2⟩ l hl
  simp at hl
  rcases hl with rfl | rfl
  ·
   rw [h2]; simp
  ·
   rw [h1]; simp
 ·
  intro h
  exact ⟨hi, by simpa using h n (by simp), by simpa using h b (by simp)⟩
theorem free_ten {b n : List Bool} (h : rightA b n = true) {i : Nat} (hf : freeB b n i = true) : 10 ≤ i := by
 refine Nat.le_of_not_lt fun hl => ?_
 have := (((rightA_iff b n).1 h).2.2.2 i hl).2
 rw [((freeB_iff b n i).1 hf).2.1] at this
 cases this
def howN (f : Nat → Bool) : Nat → Nat
 | 0 => 0
 | k + 1 => howN f k + bn (f k)
theorem howN_le (f : Nat → Bool) (k : Nat) : howN f k ≤ k := by
 induction k with
 | zero => exact Nat.le_refl _
 | succ k ih => rw [howN]; have := bn_lt (f k); omega
theorem howN_congr {f g : Nat → Bool} {k : Nat} (h : ∀ i, i < k → f i = g i) : howN f k = howN g k := by
 induction k with
 | zero => rfl
 | succ k ih => rw [howN, howN, ih fun i hi => h i (by omega), h k (by omega)]
theorem howN_zero {f : Nat → Bool} {k : Nat} : howN f k = 0 ↔ ∀ i, i < k → f i = false := by
 induction k with
 | zero => exact ⟨fun _ i hi => by omega, fun _ => rfl⟩
 | succ k ih =>
  rw [howN]
  constructor
  ·
   intro h i hi
   by_cases e : i = k
   ·
    subst e
    cases hf : f i with
    | false => rfl
    | true => rw [hf] at h; simp [bn] at h
   ·
    exact ih.1 (by omega) i (by omega)
  ·
   intro h
   rw [ih.2 fun i hi => h i (by omega), h k (by omega)]; rfl
theorem howN_one {f g : Nat → Bool} {k p : Nat} (hp : p < k) (hf : f p = true) (hg : g p = false) (h : ∀ i, i < k → i ≠ p → f i = g i) : howN f k = howN g k + 1 := by
 induction k with
 | zero => omega
 | succ k ih =>
  rw [howN, howN]
  by_cases e : p = k
  ·
   subst e
   rw [hf, hg, howN_congr fun i hi => h i (by omega) (by omega)]
   simp [bn]
  ·
   rw [ih (by omega) fun i hi hn => h i (by omega) hn, h k (by omega) (fun hh => e hh.symm)]
   omega
theorem howN_or {f g h : Nat → Bool} {k : Nat} (hh : ∀ i, i < k → h i = (f i || g i) ∧ ¬ (f i = true ∧ g i = true)) : howN h k = howN f k + howN g k := by
 induction k with
 | zero => rfl
 | succ k ih =>
  rw [howN, howN, howN, ih fun i hi => hh i (by omega), (hh k (by omega)).1]
  have := (hh k (by omega)).2
  cases hf : f k <;> cases hg : g k <;> simp_all [bn] <;> omega
theorem howN_all {f : Nat → Bool} {k : Nat} (h : ∀ i, i < k → f i = true) : howN f k = k := by
 induction k with
 | zero => rfl
 | succ k ih => rw [howN, ih fun i hi => h i (by omega), h k (by omega)]; rfl
def freshL (k : Nat) : List Bool := (List.range k).map fun i => decide (i < 10)
theorem freshL_length (k : Nat) : (freshL k).length = k := by simp [freshL]
theorem freshL_at {k i : Nat} (h : i < k) : atB (freshL k) i = decide (i < 10) := by
 apply atB_some
 unfold freshL
 rw [List.getElem?_map, List.getElem?_range h]; rfl
theorem freshL_right {k : Nat} (h1 : 24 ≤ k) (h2 : k ≤ 2048) : rightA (freshL k) (freshL k) = true := by
 rw [rightA_iff, freshL_length]
 refine ⟨rfl, h1, h2, fun i hi => ?_⟩
 rw [freshL_at (by omega)]
 exact ⟨decide_eq_true hi, decide_eq_true hi⟩
def takeP (b n : List Bool) : Int := firstB 0 [b, n]
def takeE (b n : List Bool) : Int := if rightA b n = true then (if takeP b n = -1 then 60 else 0) else 1
def takeK (b n : List Bool) : Int := if takeE b n = 0 then takeP b n else 0
def takeB (b n : List Bool) : List Bool := if takeE b n = 0 then b else []
def takeNow (b n : List Bool) : List Bool := if takeE b n = 0 then n.set (takeP b n).toNat true else []
theorem takeP_spec {b n : List Bool} (h : b.length = n.length) :
  (takeP b n = -1 ∧ ∀ i, i < n.length → freeB b n i = false) ∨ ∃ p : Nat, takeP b n = p ∧ p < n.length ∧ freeB b n p = true ∧ ∀ i, i < p → freeB b n i = false := by
 have hL : longest [b, n] = n.length := by simp [longest]; omega
 have hno : ∀ i, i < n.length → howB [b, n] i ≠ 0 → freeB b n i = false := by
  intro i hi hh
  cases hf : freeB b n i with
  | false => rfl
  | true => exact absurd ((freeB_how hi).1 hf) hh
 unfold takeP
 rcases firstB_spec 0 [b, n] with ⟨e, hn⟩ | ⟨p, e, h1, h2, h3, h4⟩
 ·
  exact .inl ⟨e, fun i hi => hno i hi (hn i (by omega) (by omega))⟩
 ·
  refine .inr ⟨p, e, by omega, (freeB_how (by omega)).2 h3, fun i hi => hno i (by omega) (h4 i (by omega) hi)⟩
theorem atB_setB (l : List Bool) (p i : Nat) (x : Bool) : atB (l.set p x) i = if p = i ∧ i < l.length then x else atB l i := by
 unfold atB
 rw [List.getElem?_set]
 by_cases e : p = i
 ·
  subst e
  by_cases hl : p < l.length
  ·
   rw [if_pos rfl, if_pos hl, if_pos ⟨rfl, hl⟩]; rfl
  ·
   rw [if_pos rfl, if_neg hl, if_neg (fun h => hl h.2), List.getElem?_eq_none (by omega)]
 ·
  rw [if_neg e, if_neg (fun h => e h.1)]
theorem free_taken {b n : List Bool} {p : Nat} (hp : freeB b n p = true) : freeB b (n.set p true) p = false ∧ (∀ i, i ≠ p → freeB b (n.set p true) i = freeB b n i) ∧ howN (freeB b n) n.length = howN (freeB b (n.set p true)) n.length + 1 := by
 have hl := ((freeB_iff b n p).1 hp).1
 have h1 : freeB b (n.set p true) p = false := by
  unfold freeB
  rw [atB_setB, if_pos ⟨rfl, hl⟩]; simp
 have h2 : ∀ i, i ≠ p → freeB b (n.set p true) i = freeB b n i := by
  intro i hi
  unfold freeB
  rw [List.length_set, atB_setB, if_neg (fun h => hi h.1.symm)]
 exact ⟨h1, h2, howN_one hl hp h1 fun i _ hn => (h2 i hn).symm⟩
end Go.Proofs.YtaobfgplheoefaaGreat.Plain
namespace Go.Proofs.YtaobfgplheoefaaGreat
open Go.RowKit Plain Go.ChangeShapes Go.WideShapes
set_option linter.unusedVariables false
def Box2 (w : World) (h : Nat) (v0 v1 : Value) : Prop :=
 (w.cell? ⟨h, 0, none⟩ = some v0 ∧ w.cell? ⟨h, 1, none⟩ = some v1) ∧ w.frozen? ⟨h, 0, none⟩ = false ∧ w.frozen? ⟨h, 1, none⟩ = false
theorem box2_new (w : World) (v0 v1 : Value) (t : TypeId) {h : Nat} (hh : h = w.heap.size) : Box2 (w.alloc (.cells #[v0, v1] t)) h v0 v1 := by
 subst hh
 refine ⟨⟨World.cell?_alloc_at _ _ _ _ rfl, World.cell?_alloc_at _ _ _ _ rfl⟩, ?_, ?_⟩
 ·
  exact (World.frozen?_alloc_mark w _ _ _ _ 0).trans (by simp)
 ·
  exact (World.frozen?_alloc_mark w _ _ _ _ 1).trans (by simp)
theorem Box2.lt {w : World} {h : Nat} {v0 v1 : Value} (b : Box2 w h v0 v1) : h < w.heap.size := cell_lt b.1.1
theorem Box2.below {w w' : World} {h : Nat} {v0 v1 : Value} (b : Box2 w h v0 v1) (hb : Below w.heap.size w w') : Box2 w' h v0 v1 := by
 have hl := b.lt
 obtain ⟨⟨c0, c1⟩, f0, f1⟩ := b
 exact ⟨⟨cell_below hb c0, cell_below hb c1⟩, by rw [hb.frozen (p := ⟨h, 0, none⟩) hl]; exact f0, by rw [hb.frozen (p := ⟨h, 1, none⟩) hl]; exact f1⟩
theorem Box2.alloc {w : World} {h : Nat} {v0 v1 : Value} (b : Box2 w h v0 v1) (o : Obj) : Box2 (w.alloc o) h v0 v1 := b.below ((Below.refl _ _).alloc (Nat.le_refl _) o)
theorem below_set2 {w w1 : World} {h : Nat} {v0 v1 : Value} (hB : Below w.heap.size w w1) (hh : w.heap.size ≤ h) : Below w.heap.size w ((w1.setCell ⟨h, 0, none⟩ v0).setCell ⟨h, 1, none⟩ v1) :=
 (hB.setCell (p := ⟨h, 0, none⟩) hh _).setCell (p := ⟨h, 1, none⟩) hh _
theorem OwnT.store {base : Nat} {w : World} {a : Option Addr} {cap : Nat} {l : List Bool} (h : OwnT base w a cap l) {k : Nat} (hk : k < base) (i : Nat) (v : Value) : OwnT base (w.setCell ⟨k, i, none⟩ v) a cap l := by
 rcases h with h | ⟨g, h1, h2, cur, hg, hr⟩
 ·
  exact .inl h
 ·
  exact .inr ⟨g, h1, h2, cur, by rw [Below.heap_setCell _ _ _ _ (show g ≠ k by omega)]; exact hg, hr⟩
theorem OwnT.mono {base base' : Nat} {w : World} {a : Option Addr} {cap : Nat} {l : List Bool} (h : OwnT base w a cap l) (hb : base' ≤ base) : OwnT base' w a cap l := by
 rcases h with h | ⟨g, h1, h2, hr⟩
 ·
  exact .inl h
 ·
  exact .inr ⟨g, h1, Nat.le_trans hb h2, hr⟩
theorem OwnT_nil (base : Nat) (w : World) : OwnT base w none 0 [] := .inl ⟨rfl, rfl, rfl⟩
end Go.Proofs.YtaobfgplheoefaaGreat
namespace Go.Proofs.YtaobfgplheoefaaGreat
set_option linter.unusedVariables false
theorem op_at {ops : Array Oper} {i : Nat} {o : Oper} {post : List Oper} (hd : ops.toList.drop i = o :: post) : ops[i]? = some o := by
 have h := List.getElem?_drop (xs := ops.toList) (i := i) (j := 0)
 rw [hd] at h
 simpa using h.symm
theorem take_at {P : Program} {ops : Array Oper} {Q : Exit → Act → World → Prop} {md : Region.Mode} {S : World → Prop} {i : Nat} {o : Oper} {post : List Oper} {v : Value} {fuel : Nat} {listed : Array Bool} {a : Act} {w : World}
  (hd : ops.toList.drop i = o :: post) (hs : Region.noSelect ops = true) (hf : Region.free md ops listed i = true) (hr : (Region.ready md ops listed).contains i = true)
  (hQ : ∀ c a w, Q (.panic c) (a.put o.dst v) w → Q (.panic c) a w) (hy : YieldsIf P ops S o v a) (hS : S w)
  (h : wpAnyH P md ops Q S fuel (listed.setIfInBounds i true) (a.put o.dst v) w) : wpAnyH P md ops Q S (fuel + 1) listed a w :=
 wpAnyH_take (op_at hd) hs hf hr hQ hy hS h
theorem cons_at {P : Program} {ops : Array Oper} {Q : Exit → Act → World → Prop} {md : Region.Mode} {S : World → Prop} {fuel : Nat} {listed : Array Bool} {a : Act} {w : World} {i : Nat} {o : Oper} {post : List Oper} {rs : List Nat}
  (hd : ops.toList.drop i = o :: post)
  (h : ∀ K' : Act → World → Prop, Shut (∀ a w, S w → (S w → wpAnyH P md ops Q S fuel (listed.setIfInBounds i true) a w) → K' a w) → if Region.wanted o (yielded ops a.tmps) = true then Oper.wp P o a w K' Q else K' (a.put o.dst undef) w)
  (hs : AllReadyH P md ops Q S fuel listed a w rs) : AllReadyH P md ops Q S fuel listed a w (i :: rs) :=
 AllReadyH.cons (op_at hd) h hs
end Go.Proofs.YtaobfgplheoefaaGreat
namespace Go.Proofs.YtaobfgplheoefaaGreat
open Go.RowKit Plain
set_option linter.unusedVariables false
def mayB (k : Int) : Bool := decide (24 ≤ k) && decide (k ≤ 2048)
theorem mayHave_any (k : Int) (w : World) : Calls Tryz.prog 59 #[.int .i64 k] w fun e w' => e = .returned (.bool (mayB k)) ∧ w = w' := by
 by_cases h1 : 24 ≤ k
 ·
  by_cases h2 : k ≤ 2048
  ·
   have e : Hid (mayB k = true) := by show _ = _; unfold mayB; rw [decide_eq_true h1, decide_eq_true h2]; rfl
   go_enter Tryz.func59, Tryz.ntmps59
   go_wp2
   go_ret
   exact ⟨ret_bool e.out.symm, rfl⟩
  ·
   have e : Hid (mayB k = false) := by show _ = _; unfold mayB; rw [decide_eq_true h1, decide_eq_false h2]; rfl
   go_enter Tryz.func59, Tryz.ntmps59
   go_wp2
   go_ret
   exact ⟨ret_bool e.out.symm, rfl⟩
 ·
  have e : Hid (mayB k = false) := by show _ = _; unfold mayB; rw [decide_eq_false h1]; rfl
  go_enter Tryz.func59, Tryz.ntmps59
  go_wp2
  go_ret
  exact ⟨ret_bool e.out.symm, rfl⟩
theorem right_lens {b m : List Bool} (h : b.length ≠ m.length) : rightA b m = false := by
 rw [Bool.eq_false_iff]; exact fun hr => h ((rightA_iff b m).1 hr).1
theorem right_may {b m : List Bool} (h : mayB m.length = false) : rightA b m = false := by
 rw [Bool.eq_false_iff]
 intro hr
 obtain ⟨_, h1, h2, _⟩ := (rightA_iff b m).1 hr
 unfold mayB at h
 rw [decide_eq_true (by omega), decide_eq_true (by omega)] at h
 cases h
theorem atB_take10 (l : List Bool) {i : Nat} (h : i < 10) : atB (l.take 10) i = atB l i := by
 unfold atB; rw [List.getElem?_take_of_lt h]
theorem right_ten {b m : List Bool} (h : b.length = m.length) (hm : mayB m.length = true) : rightA b m = ((countB [b.take 10, m.take 10] : Int) == 10) := by
 unfold mayB at hm
 simp at hm
 have hl : longest [b.take 10, m.take 10] = 10 := by simp [longest]; omega
 have hc : countB [b.take 10, m.take 10] = howN (allB [b.take 10, m.take 10]) 10 := by
  unfold countB
  rw [hl]
  generalize [b.take 10, m.take 10] = ls
  generalize 10 = k
  induction k with
  | zero => rfl
  | succ k ih => rw [countN_succ, howN, ih]
 have hall : ∀ i, i < 10 → (allB [b.take 10, m.take 10] i = true ↔ atB b i = true ∧ atB m i = true) := by
  intro i hi
  unfold allB
  rw [decide_eq_true_eq, howB_all]
  rw [← atB_take10 b hi, ← atB_take10 m hi]
  simp
 rw [Bool.eq_iff_iff, rightA_iff, beq_iff_eq, hc]
 constructor
 ·
  rintro ⟨_, _, _, h4⟩
  rw [howN_all fun i hi => (hall i hi).2 (h4 i hi)]; rfl
 ·
  intro h10
  refine ⟨h, by omega, by omega, fun i hi => (hall i hi).1 ?_⟩
  cases hf : allB [b.take 10, m.take 10] i with
  | true => rfl
  | false =>
   have h2 : howN (fun j => !allB [b.take 10, m.take 10] j) 10 + howN (allB [b.take 10, m.take 10]) 10 = 10 := by
    have := howN_or (f := fun j => !allB [b.take 10, m.take 10] j) (g := allB [b.take 10, m.take 10]) (h := fun _ => true) (k := 10) (fun j _ => by cases allB [b.take 10, m.take 10] j <;> simp)
    rw [← this, howN_all fun _ _ => rfl]
   have h3 : howN (fun j => !allB [b.take 10, m.take 10] j) 10 = 0 := by omega
   have := howN_zero.1 h3 i hi
   rw [hf] at this
   cases this
set_option maxRecDepth 20000 in
set_option maxHeartbeats 2000000 in
theorem allocRight_any (a a' : Option Addr) (c c' n n' : Nat) (b m : List Bool) (w : World) (hn : n = b.length) (hn' : n' = m.length) (hB : IsB w a c b) (hB' : IsB w a' c' m) :
  Calls Tryz.prog 61 #[.agg #[.slice a n c, .slice a' n' c']] w fun e w' => e = .returned (.bool (rightA b m)) ∧ Below w.heap.size w w' := by
 have hnb : n ≤ 9223372036854775807 := by rw [hn]; exact Nat.le_trans hB.1 hB.2.1
 have hnb' : n' ≤ 9223372036854775807 := by rw [hn']; exact Nat.le_trans hB'.1 hB'.2.1
 have hB0 : Below w.heap.size w (w.alloc (.cells #[.slice a n c, .slice a' n' c'] 38)) := (Below.refl _ _).alloc (Nat.le_refl _) _
 obtain ⟨⟨q0, q1⟩, -⟩ := box2_new w (.slice a n c) (.slice a' n' c') 38 rfl
 by_cases hl : n = n'
 ·
  subst hl
  cases hm : mayB n with
  | false =>
   have he : Hid (rightA b m = false) := right_may (by rw [← hn']; exact hm)
   clear hn hn' hB hB'
   go_enter Tryz.func61, Tryz.ntmps61
   go_wp2
   generalize w.alloc (.cells #[.slice a n c, .slice a' n c'] 38) = W at q0 q1 hB0 ⊢
   refine wp_region_noPanic ?_
   refine wp_region_held_drew (S := fun V => V.cell? ⟨w.heap.size, 0, none⟩ = some (.slice a n c) ∧ V.cell? ⟨w.heap.size, 1, none⟩ = some (.slice a' n c')) (by kernel_rfl) ⟨q0, q1⟩ (fun hHeld => ?_)
   refine take_at (i := 0) (v := ?_) rfl (by kernel_rfl) (by kernel_rfl) (by kernel_rfl) (fun _ _ _ h => h) (Or.inl ⟨by rfl, ?_⟩) (by assumption) ?_
   rotate_left 1
   ·
    (intro w hSw; (try dsimp only at hSw); go_simp; (try with_reducible rfl))
   try go_frame
   refine take_at (i := 1) (v := ?_) rfl (by kernel_rfl) (by kernel_rfl) (by kernel_rfl) (fun _ _ _ h => h) (Or.inl ⟨by rfl, ?_⟩) (by assumption) ?_
   rotate_left 1
   ·
    (intro w hSw; (try dsimp only at hSw); go_simp; (try with_reducible rfl))
   try go_frame
   refine take_at (i := 2) (v := ?_) rfl (by kernel_rfl) (by kernel_rfl) (by kernel_rfl) (fun _ _ _ h => h) (Or.inl ⟨by rfl, ?_⟩) (by assumption) ?_
   rotate_left 1
   ·
    (intro w hSw; (try dsimp only at hSw); go_simp; (try with_reducible rfl))
   try go_frame
   refine take_at (i := 3) (v := ?_) rfl (by kernel_rfl) (by kernel_rfl) (by kernel_rfl) (fun _ _ _ h => h) (Or.inl ⟨by rfl, ?_⟩) (by assumption) ?_
   rotate_left 1
   ·
    (intro w hSw; (try dsimp only at hSw); go_simp; (try with_reducible rfl))
   try go_frame
   refine take_at (i := 4) (v := ?_) rfl (by kernel_rfl) (by kernel_rfl) (by kernel_rfl) (fun _ _ _ h => h) (Or.inl ⟨by rfl, ?_⟩) (by assumption) ?_
   rotate_left 1
   ·
    (intro w hSw; (try dsimp only at hSw); go_simp; (try with_reducible rfl))
   try go_frame
   refine take_at (i := 5) (v := ?_) rfl (by kernel_rfl) (by kernel_rfl) (by kernel_rfl) (fun _ _ _ h => h) (Or.inl ⟨by rfl, ?_⟩) (by assumption) ?_
   rotate_left 1
   ·
    (intro w hSw; (try dsimp only at hSw); go_simp; (try with_reducible rfl))
   try go_frame
   refine take_at (i := 6) (v := ?_) rfl (by kernel_rfl) (by kernel_rfl) (by kernel_rfl) (fun _ _ _ h => h) (Or.inl ⟨by rfl, ?_⟩) (by assumption) ?_
   rotate_left 1
   ·
    (intro w hSw; (try dsimp only at hSw); go_simp; (try with_reducible rfl))
   try go_frame
   refine take_at (i := 7) (v := ?_) rfl (by kernel_rfl) (by kernel_rfl) (by kernel_rfl) (fun _ _ _ h => h) (Or.inl ⟨by rfl, ?_⟩) (by assumption) ?_
   rotate_left 1
   ·
    (intro w hSw; (try dsimp only at hSw); go_simp; (try with_reducible rfl))
   try go_frame
   refine take_at (i := 8) (v := ?_) rfl (by kernel_rfl) (by kernel_rfl) (by kernel_rfl) (fun _ _ _ h => h) (Or.inl ⟨by rfl, ?_⟩) (by assumption) ?_
   rotate_left 1
   ·
    (intro w hSw; (try dsimp only at hSw); go_simp; (try with_reducible rfl))
   try go_frame
   refine take_at (i := 9) (v := ?_) rfl (by kernel_rfl) (by kernel_rfl) (by kernel_rfl) (fun _ _ _ h => h) (Or.inl ⟨by rfl, ?_⟩) (by assumption) ?_
   rotate_left 1
   ·
    (intro w hSw; (try dsimp only at hSw); go_simp; (try with_reducible rfl))
   try go_frame
   refine take_at (i := 10) (v := ?_) rfl (by kernel_rfl) (by kernel_rfl) (by kernel_rfl) (fun _ _ _ h => h) (Or.inl ⟨by rfl, ?_⟩) (by assumption) ?_
   rotate_left 1
   ·
    (intro w hSw; (try dsimp only at hSw); go_simp; (try with_reducible rfl))
   try go_frame
   refine wpAnyH_ready (rs := [11]) (by kernel_rfl) (by simp) ?_
   refine cons_at (i := 11) rfl (fun K hK => ?_) AllReadyH.nil
   go_simp
   go_at_call 59
   refine (mayHave_any _ _).mono ?_
   rw [hm]
   rintro e w' ⟨rfl, rfl⟩
   refine hK.out _ _ ?_ (fun hHeld => ?_)
   ·
    assumption
   clear hK K
   refine take_at (i := 12) (v := ?_) rfl (by kernel_rfl) (by kernel_rfl) (by kernel_rfl) (fun _ _ _ h => h) (Or.inl ⟨by rfl, ?_⟩) (by assumption) ?_
   rotate_left 1
   ·
    (intro w hSw; (try dsimp only at hSw); go_simp; (try with_reducible rfl))
   try go_frame
   refine take_at (i := 13) (v := ?_) rfl (by kernel_rfl) (by kernel_rfl) (by kernel_rfl) (fun _ _ _ h => h) (Or.inl ⟨by rfl, ?_⟩) (by assumption) ?_
   rotate_left 1
   ·
    (intro w hSw; (try dsimp only at hSw); go_simp; (try with_reducible rfl))
   try go_frame
   refine take_at (i := 14) (v := undef) rfl (by kernel_rfl) (by kernel_rfl) (by kernel_rfl) (fun _ _ _ h => h) (Or.inr ⟨by rfl, rfl⟩) (by assumption) ?_
   try go_frame
   refine take_at (i := 15) (v := undef) rfl (by kernel_rfl) (by kernel_rfl) (by kernel_rfl) (fun _ _ _ h => h) (Or.inr ⟨by rfl, rfl⟩) (by assumption) ?_
   try go_frame
   refine take_at (i := 16) (v := undef) rfl (by kernel_rfl) (by kernel_rfl) (by kernel_rfl) (fun _ _ _ h => h) (Or.inr ⟨by rfl, rfl⟩) (by assumption) ?_
   try go_frame
   refine take_at (i := 17) (v := undef) rfl (by kernel_rfl) (by kernel_rfl) (by kernel_rfl) (fun _ _ _ h => h) (Or.inr ⟨by rfl, rfl⟩) (by assumption) ?_
   try go_frame
   refine take_at (i := 18) (v := undef) rfl (by kernel_rfl) (by kernel_rfl) (by kernel_rfl) (fun _ _ _ h => h) (Or.inr ⟨by rfl, rfl⟩) (by assumption) ?_
   try go_frame
   refine take_at (i := 19) (v := undef) rfl (by kernel_rfl) (by kernel_rfl) (by kernel_rfl) (fun _ _ _ h => h) (Or.inr ⟨by rfl, rfl⟩) (by assumption) ?_
   try go_frame
   refine take_at (i := 20) (v := undef) rfl (by kernel_rfl) (by kernel_rfl) (by kernel_rfl) (fun _ _ _ h => h) (Or.inr ⟨by rfl, rfl⟩) (by assumption) ?_
   try go_frame
   refine take_at (i := 21) (v := undef) rfl (by kernel_rfl) (by kernel_rfl) (by kernel_rfl) (fun _ _ _ h => h) (Or.inr ⟨by rfl, rfl⟩) (by assumption) ?_
   try go_frame
   refine take_at (i := 22) (v := undef) rfl (by kernel_rfl) (by kernel_rfl) (by kernel_rfl) (fun _ _ _ h => h) (Or.inr ⟨by rfl, rfl⟩) (by assumption) ?_
   try go_frame
   refine take_at (i := 23) (v := ?_) rfl (by kernel_rfl) (by kernel_rfl) (by kernel_rfl) (fun _ _ _ h => h) (Or.inl ⟨by rfl, ?_⟩) (by assumption) ?_
   rotate_left 1
   ·
    (intro w hSw; (try dsimp only at hSw); go_simp; (try with_reducible rfl))
   try go_frame
   refine take_at (i := 24) (v := ?_) rfl (by kernel_rfl) (by kernel_rfl) (by kernel_rfl) (fun _ _ _ h => h) (Or.inl ⟨by rfl, ?_⟩) (by assumption) ?_
   rotate_left 1
   ·
    (intro w hSw; (try dsimp only at hSw); go_simp; (try with_reducible rfl))
   try go_frame
   refine wpAnyH_done (by kernel_rfl) ?_ _
   refine NoPanic.normal ?_
   go_wp2
   go_ret
   exact ⟨ret_bool he.out.symm, hB0.drew⟩
  | true =>
   have he : Hid (rightA b m = ((countB [b.take 10, m.take 10] : Int) == 10)) := right_ten (by omega) (by rw [← hn']; exact hm)
   have hr : 24 ≤ n ∧ n ≤ 2048 := by unfold mayB at hm; simp at hm; omega
   have hc1 : n ≤ c := by rw [hn]; exact hB.1
   have hc2 : n ≤ c' := by rw [hn']; exact hB'.1
   obtain ⟨b1, o1, rfl, -⟩ := hB.some (by omega)
   obtain ⟨b2, o2, rfl, -⟩ := hB'.some (by omega)
   have hd1 : (10 : Int) ≤ c := by omega
   have hd2 : (10 : Int) ≤ c' := by omega
   obtain ⟨X, hX⟩ : ∃ X, Hid (X = countB [b.take 10, m.take 10]) := ⟨_, rfl⟩
   have cc : ∀ W, Below w.heap.size w W → Calls Tryz.prog 108 #[.slice (some ⟨W.heap.size, 0, none⟩) 2 2] (W.alloc (.cells #[.slice (some ⟨b1, o1, none⟩) 10 c, .slice (some ⟨b2, o2, none⟩) 10 c'] 36)) fun e w' => e = .returned (.int .i64 X) ∧ Below W.heap.size W w' := by
    intro W hW
    rw [hX.out]
    exact count_two W _ _ c c' 10 10 (b.take 10) (m.take 10) (by rw [List.length_take]; omega) (by rw [List.length_take]; omega) ((hB.take 10).below hW) ((hB'.take 10).below hW)
   rw [← hX.out] at he
   clear hn hn' hB hB' hX
   go_enter Tryz.func61, Tryz.ntmps61
   go_wp2
   generalize w.alloc (.cells #[.slice (some ⟨b1, o1, none⟩) n c, .slice (some ⟨b2, o2, none⟩) n c'] 38) = W at q0 q1 hB0 ⊢
   replace hB0 := hB0.drew
   go_region_held3 (fun V => V.cell? ⟨w.heap.size, 0, none⟩ = some (.slice (some ⟨b1, o1, none⟩) n c) ∧ V.cell? ⟨w.heap.size, 1, none⟩ = some (.slice (some ⟨b2, o2, none⟩) n c')) (first | exact ⟨q0, q1⟩ | exact ⟨cell_alloc q0 _, cell_alloc q1 _⟩) (first
    | (go_at_call 59; refine (mayHave_any _ _).mono ?_; rw [hm]; rintro e w' ⟨rfl, rfl⟩)
    | (go_at_call 108; refine (cc _ hB0).mono ?_; rintro e w' ⟨rfl, hb⟩; replace q0 := cell_below hb q0; replace q1 := cell_below hb q1; replace hB0 := Below.tr hB0 hb; clear hb))
   go_wp2
   go_ret
   exact ⟨ret_bool he.out.symm, hB0⟩
 ·
  have he : Hid (rightA b m = false) := right_lens (by omega)
  have hl' : ((n : Int) == n') = false := by rw [beq_eq_false_iff_ne]; omega
  clear hn hn' hB hB'
  go_enter Tryz.func61, Tryz.ntmps61
  go_wp2
  generalize w.alloc (.cells #[.slice a n c, .slice a' n' c'] 38) = W at q0 q1 hB0 ⊢
  refine wp_region_noPanic ?_
  refine wp_region_held_drew (S := fun V => V.cell? ⟨w.heap.size, 0, none⟩ = some (.slice a n c) ∧ V.cell? ⟨w.heap.size, 1, none⟩ = some (.slice a' n' c')) (by kernel_rfl) ⟨q0, q1⟩ (fun hHeld => ?_)
  refine take_at (i := 0) (v := ?_) rfl (by kernel_rfl) (by kernel_rfl) (by kernel_rfl) (fun _ _ _ h => h) (Or.inl ⟨by rfl, ?_⟩) (by assumption) ?_
  rotate_left 1
  ·
   (intro w hSw; (try dsimp only at hSw); go_simp; (try with_reducible rfl))
  try go_frame
  refine take_at (i := 1) (v := ?_) rfl (by kernel_rfl) (by kernel_rfl) (by kernel_rfl) (fun _ _ _ h => h) (Or.inl ⟨by rfl, ?_⟩) (by assumption) ?_
  rotate_left 1
  ·
   (intro w hSw; (try dsimp only at hSw); go_simp; (try with_reducible rfl))
  try go_frame
  refine take_at (i := 2) (v := ?_) rfl (by kernel_rfl) (by kernel_rfl) (by kernel_rfl) (fun _ _ _ h => h) (Or.inl ⟨by rfl, ?_⟩) (by assumption) ?_
  rotate_left 1
  ·
   (intro w hSw; (try dsimp only at hSw); go_simp; (try with_reducible rfl))
  try go_frame
  refine take_at (i := 3) (v := ?_) rfl (by kernel_rfl) (by kernel_rfl) (by kernel_rfl) (fun _ _ _ h => h) (Or.inl ⟨by rfl, ?_⟩) (by assumption) ?_
  rotate_left 1
  ·
   (intro w hSw; (try dsimp only at hSw); go_simp; (try with_reducible rfl))
  try go_frame
  refine take_at (i := 4) (v := ?_) rfl (by kernel_rfl) (by kernel_rfl) (by kernel_rfl) (fun _ _ _ h => h) (Or.inl ⟨by rfl, ?_⟩) (by assumption) ?_
  rotate_left 1
  ·
   (intro w hSw; (try dsimp only at hSw); go_simp; (try with_reducible rfl))
  try go_frame
  refine take_at (i := 5) (v := ?_) rfl (by kernel_rfl) (by kernel_rfl) (by kernel_rfl) (fun _ _ _ h => h) (Or.inl ⟨by rfl, ?_⟩) (by assumption) ?_
  rotate_left 1
  ·
   (intro w hSw; (try dsimp only at hSw); go_simp; (try with_reducible rfl))
  try go_frame
  refine take_at (i := 6) (v := ?_) rfl (by kernel_rfl) (by kernel_rfl) (by kernel_rfl) (fun _ _ _ h => h) (Or.inl ⟨by rfl, ?_⟩) (by assumption) ?_
  rotate_left 1
  ·
   (intro w hSw; (try dsimp only at hSw); go_simp; (try with_reducible rfl))
  try go_frame
  refine take_at (i := 7) (v := ?_) rfl (by kernel_rfl) (by kernel_rfl) (by kernel_rfl) (fun _ _ _ h => h) (Or.inl ⟨by rfl, ?_⟩) (by assumption) ?_
  rotate_left 1
  ·
   (intro w hSw; (try dsimp only at hSw); go_simp; (try with_reducible rfl))
  try go_frame
  refine take_at (i := 8) (v := undef) rfl (by kernel_rfl) (by kernel_rfl) (by kernel_rfl) (fun _ _ _ h => h) (Or.inr ⟨by rfl, rfl⟩) (by assumption) ?_
  try go_frame
  refine take_at (i := 9) (v := undef) rfl (by kernel_rfl) (by kernel_rfl) (by kernel_rfl) (fun _ _ _ h => h) (Or.inr ⟨by rfl, rfl⟩) (by assumption) ?_
  try go_frame
  refine take_at (i := 10) (v := undef) rfl (by kernel_rfl) (by kernel_rfl) (by kernel_rfl) (fun _ _ _ h => h) (Or.inr ⟨by rfl, rfl⟩) (by assumption) ?_
  try go_frame
  refine take_at (i := 11) (v := undef) rfl (by kernel_rfl) (by kernel_rfl) (by kernel_rfl) (fun _ _ _ h => h) (Or.inr ⟨by rfl, rfl⟩) (by assumption) ?_
  try go_frame
  refine take_at (i := 12) (v := ?_) rfl (by kernel_rfl) (by kernel_rfl) (by kernel_rfl) (fun _ _ _ h => h) (Or.inl ⟨by rfl, ?_⟩) (by assumption) ?_
  rotate_left 1
  ·
   (intro w hSw; (try dsimp only at hSw); go_simp; (try with_reducible rfl))
  try go_frame
  refine take_at (i := 13) (v := ?_) rfl (by kernel_rfl) (by kernel_rfl) (by kernel_rfl) (fun _ _ _ h => h) (Or.inl ⟨by rfl, ?_⟩) (by assumption) ?_
  rotate_left 1
  ·
   (intro w hSw; (try dsimp only at hSw); go_simp; (try with_reducible rfl))
  try go_frame
  refine take_at (i := 14) (v := undef) rfl (by kernel_rfl) (by kernel_rfl) (by kernel_rfl) (fun _ _ _ h => h) (Or.inr ⟨by rfl, rfl⟩) (by assumption) ?_
  try go_frame
  refine take_at (i := 15) (v := undef) rfl (by kernel_rfl) (by kernel_rfl) (by kernel_rfl) (fun _ _ _ h => h) (Or.inr ⟨by rfl, rfl⟩) (by assumption) ?_
  try go_frame
  refine take_at (i := 16) (v := undef) rfl (by kernel_rfl) (by kernel_rfl) (by kernel_rfl) (fun _ _ _ h => h) (Or.inr ⟨by rfl, rfl⟩) (by assumption) ?_
  try go_frame
  refine take_at (i := 17) (v := undef) rfl (by kernel_rfl) (by kernel_rfl) (by kernel_rfl) (fun _ _ _ h => h) (Or.inr ⟨by rfl, rfl⟩) (by assumption) ?_
  try go_frame
  refine take_at (i := 18) (v := undef) rfl (by kernel_rfl) (by kernel_rfl) (by kernel_rfl) (fun _ _ _ h => h) (Or.inr ⟨by rfl, rfl⟩) (by assumption) ?_
  try go_frame
  refine take_at (i := 19) (v := undef) rfl (by kernel_rfl) (by kernel_rfl) (by kernel_rfl) (fun _ _ _ h => h) (Or.inr ⟨by rfl, rfl⟩) (by assumption) ?_
  try go_frame
  refine take_at (i := 20) (v := undef) rfl (by kernel_rfl) (by kernel_rfl) (by kernel_rfl) (fun _ _ _ h => h) (Or.inr ⟨by rfl, rfl⟩) (by assumption) ?_
  try go_frame
  refine take_at (i := 21) (v := undef) rfl (by kernel_rfl) (by kernel_rfl) (by kernel_rfl) (fun _ _ _ h => h) (Or.inr ⟨by rfl, rfl⟩) (by assumption) ?_
  try go_frame
  refine take_at (i := 22) (v := undef) rfl (by kernel_rfl) (by kernel_rfl) (by kernel_rfl) (fun _ _ _ h => h) (Or.inr ⟨by rfl, rfl⟩) (by assumption) ?_
  try go_frame
  refine take_at (i := 23) (v := ?_) rfl (by kernel_rfl) (by kernel_rfl) (by kernel_rfl) (fun _ _ _ h => h) (Or.inl ⟨by rfl, ?_⟩) (by assumption) ?_
  rotate_left 1
  ·
   (intro w hSw; (try dsimp only at hSw); go_simp; (try with_reducible rfl))
  try go_frame
  refine take_at (i := 24) (v := ?_) rfl (by kernel_rfl) (by kernel_rfl) (by kernel_rfl) (fun _ _ _ h => h) (Or.inl ⟨by rfl, ?_⟩) (by assumption) ?_
  rotate_left 1
  ·
   (intro w hSw; (try dsimp only at hSw); go_simp; (try with_reducible rfl))
  try go_frame
  refine wpAnyH_done (by kernel_rfl) ?_ _
  refine NoPanic.normal ?_
  go_wp2
  go_ret
  exact ⟨ret_bool he.out.symm, hB0.drew⟩
end Go.Proofs.YtaobfgplheoefaaGreat
namespace Go.Proofs.YtaobfgplheoefaaGreat.Anyorder
open Go
end Go.Proofs.YtaobfgplheoefaaGreat.Anyorder
namespace Go.Proofs.YtaobfgplheoefaaGreat
open Go.RowKit Plain Anyorder
set_option linter.unusedVariables false
theorem countN_how (ls : List (List Bool)) (k : Nat) : countN ls k = howN (allB ls) k := by
 induction k with
 | zero => rfl
 | succ k ih => rw [countN_succ, howN, ih]
theorem count_incl (f g h u : Nat → Bool) (k : Nat) (hh : ∀ i, h i = (f i && g i)) (hu : ∀ i, i < k → u i = (!f i && !g i)) : howN f k + howN g k + howN u k = howN h k + k := by
 induction k with
 | zero => rfl
 | succ k ih =>
  have := ih fun i hi => hu i (by omega)
  rw [howN, howN, howN, howN, hh k, hu k (by omega)]
  cases f k <;> cases g k <;> simp [bn] <;> omega
theorem free_used {b m : List Bool} (h : b.length = m.length) : countB [b] + countB [m] + howN (freeB b m) m.length = countB [b, m] + m.length := by
 have e1 : countB [b] = howN (atB b) m.length := by
  unfold countB
  rw [countN_how, show longest [b] = m.length by simp [longest]; omega]
  apply howN_congr
  intro i _
  rw [Bool.eq_iff_iff]
  unfold allB
  rw [decide_eq_true_eq, howB_all]; simp
 have e2 : countB [m] = howN (atB m) m.length := by
  unfold countB
  rw [countN_how, show longest [m] = m.length by simp [longest]]
  apply howN_congr
  intro i _
  rw [Bool.eq_iff_iff]
  unfold allB
  rw [decide_eq_true_eq, howB_all]; simp
 have e3 : countB [b, m] = howN (fun i => atB b i && atB m i) m.length := by
  unfold countB
  rw [countN_how, show longest [b, m] = m.length by simp [longest]; omega]
  apply howN_congr
  intro i _
  rw [Bool.eq_iff_iff]
  unfold allB
  rw [decide_eq_true_eq, howB_all]; simp
 rw [e1, e2, e3]
 refine count_incl _ _ _ _ _ (fun _ => rfl) fun i hi => ?_
 unfold freeB
 rw [decide_eq_true hi, Bool.true_and, Bool.and_comm]
theorem first_ten {b m : List Bool} (h : rightA b m = true) : firstB 10 [b, m] = takeP b m := by
 obtain ⟨hl, _⟩ := (rightA_iff b m).1 h
 have hL : longest [b, m] = m.length := by simp [longest]; omega
 rcases takeP_spec hl with ⟨e, hn⟩ | ⟨p, e, hp, hf, hlo⟩
 ·
  rw [e]
  refine firstB_none fun j _ hj hh => ?_
  rw [hL] at hj
  have := hn j hj
  rw [(freeB_how hj).2 hh] at this
  cases this
 ·
  rw [e]
  refine firstB_is (by have := free_ten h hf; omega) (by omega) ((freeB_how hp).1 hf) fun j _ hj hh => ?_
  have := hlo j hj
  rw [(freeB_how (by omega)).2 hh] at this
  cases this
end Go.Proofs.YtaobfgplheoefaaGreat
namespace Go.Proofs.YtaobfgplheoefaaGreat
open Go.RowKit Plain
set_option linter.unusedVariables false
set_option maxHeartbeats 1000000 in
theorem making_any (a a' : Option Addr) (c c' n n' : Nat) (b : List Bool) (w : World) (hn : n = b.length) (hl : n ≤ 4096) (hB : IsB w a c b) :
  Calls Tryz.prog 64 #[.slice a n c, .slice a' n' c'] w fun e w' => ∃ a1 c1, e = .returned (.agg #[.slice a1 n c1, .slice a' n' c']) ∧ OwnT w.heap.size w' a1 c1 b ∧ Below w.heap.size w w' := by
 have hB0 : Below w.heap.size w (w.alloc (.cells #[.slice none 0 0, .slice none 0 0] 38)) := (Below.refl _ _).alloc (Nat.le_refl _) _
 have bx := box2_new w (.slice none 0 0) (.slice none 0 0) 38 rfl
 have cc := clone_any a c n b _ hn (hB.below hB0) hl
 clear hn hB
 go_enter Tryz.func64, Tryz.ntmps64
 go_wp2_with (go_at_call 76; refine cc.mono ?_; rintro e w1 ⟨a1, c1, rfl, ho, hb⟩; have HO : Hid (OwnT _ w1 a1 c1 b) := ho; replace hB0 := Below.tr hB0 hb; obtain ⟨⟨q0, q1⟩, f0, f1⟩ := bx.below hb; clear ho hb cc bx)
 refine bodyPost_ret (v := .agg #[.slice a1 n c1, .slice a' n' c']) (by simp [results, Tryz.results64, go_sem, q0, q1]) rfl ⟨a1, c1, rfl, ?_, below_set2 hB0 (Nat.le_refl _)⟩
 exact ((HO.out.store (by simp) _ _).store (by simp) _ _).mono (by simp)
set_option maxHeartbeats 1000000 in
theorem counting_any (a : Option Addr) (c n : Nat) (b : List Bool) (w : World) (hn : n = b.length) (hl : n ≤ 4096) (hB : IsB w a c b) :
  Calls Tryz.prog 60 #[.slice a n c] w fun e w' => ∃ a1 c1, e = .returned (.agg #[.slice a1 n c1, .slice a n c]) ∧ OwnT w.heap.size w' a1 c1 b ∧ Below w.heap.size w w' := by
 have hB0 : Below w.heap.size w (w.alloc (.cells #[.slice none 0 0, .slice none 0 0] 38)) := (Below.refl _ _).alloc (Nat.le_refl _) _
 have bx := box2_new w (.slice none 0 0) (.slice none 0 0) 38 rfl
 have cc := making_any a a c c n n b _ hn hl (hB.below hB0)
 clear hn hB
 go_enter Tryz.func60, Tryz.ntmps60
 go_wp2_with (go_at_call 64; refine cc.mono ?_; rintro e w1 ⟨a1, c1, rfl, ho, hb⟩; have HO : Hid (OwnT _ w1 a1 c1 b) := ho; replace hB0 := Below.tr hB0 hb; obtain ⟨⟨q0, q1⟩, f0, f1⟩ := bx.below hb; clear ho hb cc bx)
 refine bodyPost_ret (v := .agg #[.slice a1 n c1, .slice a n c]) (by simp [results, Tryz.results60, go_sem, q0, q1]) rfl ⟨a1, c1, rfl, ?_, below_set2 hB0 (Nat.le_refl _)⟩
 exact ((HO.out.store (by simp) _ _).store (by simp) _ _).mono (by simp)
def freshA (k : Int) : List Bool := if mayB k = true then freshL k.toNat else []
def freshE (k : Int) : Int := if mayB k = true then 0 else 1
def usedL (k j : Nat) : List Bool := (List.range k).map fun i => decide (i < j)
theorem usedL_length (k j : Nat) : (usedL k j).length = k := by simp [usedL]
theorem usedL_get {k i : Nat} (j : Nat) (h : i < k) : (usedL k j)[i]? = some (decide (i < j)) := by
 unfold usedL; rw [List.getElem?_map, List.getElem?_range h]; rfl
theorem usedL_zero (k : Nat) : usedL k 0 = List.replicate k false := by
 apply List.ext_getElem?
 intro i
 by_cases h : i < k
 ·
  rw [usedL_get 0 h, List.getElem?_replicate, if_pos h]; simp
 ·
  rw [List.getElem?_eq_none (by rw [usedL_length]; omega), List.getElem?_eq_none (by simp; omega)]
theorem usedL_set {k j : Nat} (h : j < k) : (usedL k j).set j true = usedL k (j + 1) := by
 apply List.ext_getElem?
 intro i
 by_cases hi : i < k
 ·
  rw [usedL_get _ hi]
  by_cases e : j = i
  ·
   subst e
   rw [List.getElem?_set_self (by rw [usedL_length]; exact h)]
   simp
  ·
   rw [List.getElem?_set_ne e, usedL_get _ hi, show decide (i < j + 1) = decide (i < j) from by rw [decide_eq_decide]; omega]
 ·
  rw [List.getElem?_eq_none (by rw [List.length_set, usedL_length]; omega), List.getElem?_eq_none (by rw [usedL_length]; omega)]
theorem usedL_ten (k : Nat) : usedL k 10 = freshL k := rfl
theorem mayB_no {k : Int} (h : mayB k = false) : freshA k = [] ∧ freshE k = 1 := by unfold freshA freshE; rw [h]; exact ⟨rfl, rfl⟩
theorem mayB_yes {k : Nat} (h : mayB k = true) : freshA k = freshL k ∧ freshE k = 0 := by unfold freshA freshE; rw [h]; exact ⟨rfl, rfl⟩
theorem mayB_iff {k : Int} : mayB k = true ↔ 24 ≤ k ∧ k ≤ 2048 := by unfold mayB; simp
set_option maxRecDepth 20000 in
set_option maxHeartbeats 2000000 in
theorem allocNew_any (k : Int) (w : World) :
  Calls Tryz.prog 24 #[.int .i64 k] w fun e w' => ∃ a1 c1 a2 c2, e = .returned (.tuple #[.agg #[.slice a1 (freshA k).length c1, .slice a2 (freshA k).length c2], .int .i64 (freshE k)]) ∧ OwnT w.heap.size w' a1 c1 (freshA k) ∧ OwnT w.heap.size w' a2 c2 (freshA k) ∧ Below w.heap.size w w' := by
 have hB0 : Below w.heap.size w (w.alloc (.cells #[.slice none 0 0, .slice none 0 0] 38)) := (Below.refl _ _).alloc (Nat.le_refl _) _
 have bx := box2_new w (.slice none 0 0) (.slice none 0 0) 38 rfl
 cases hm : mayB k with
 | false =>
  obtain ⟨e1, e2⟩ := mayB_no hm
  have E1 : Hid (freshA k = []) := e1
  have E2 : Hid (freshE k = 1) := e2
  clear e1 e2
  obtain ⟨⟨q0, q1⟩, f0, f1⟩ := bx
  go_enter Tryz.func24, Tryz.ntmps24
  go_wp2_with (go_at_call 59; refine (mayHave_any _ _).mono ?_; rw [hm]; rintro e w' ⟨rfl, rfl⟩)
  refine bodyPost_ret (v := .tuple #[.agg #[.slice none 0 0, .slice none 0 0], .int .i64 1]) (by simp [results, Tryz.results24, go_sem, q0, q1]) rfl ⟨none, 0, none, 0, by rw [E1.out, E2.out]; rfl, by rw [E1.out]; exact OwnT_nil _ _, by rw [E1.out]; exact OwnT_nil _ _, hB0⟩
 | true =>
  obtain ⟨h1, h2⟩ := mayB_iff.1 hm
  obtain ⟨n, rfl⟩ : ∃ n : Nat, k = n := ⟨k.toNat, by omega⟩
  obtain ⟨e1, e2⟩ := mayB_yes hm
  have E1 : Hid (freshA n = freshL n) := e1
  have E2 : Hid (freshE n = 0) := e2
  clear e1 e2
  have hn2 : n ≤ 2048 := by omega
  have hn1 : 24 ≤ n := by omega
  obtain ⟨Z, hmk, hZ⟩ : ∃ Z : Array Value, (∀ W : World, (Instr.makeSlice 36 (.int .i64 n) (.int .i64 n)).run Tryz.prog W = .ok (.slice (some ⟨W.heap.size, 0, none⟩) n n) (W.alloc (.cells Z 4))) ∧ Hid (Z = (List.replicate n (Value.bool false)).toArray) :=
   ⟨madeCells #[.bool false] n, fun W => run_make_row' (P := Tryz.prog) 36 4 (.bool false) 1 Tryz.underlying36 Tryz.info4 rfl .i64 .i64 n (by omega) (by omega) W, made_one _ n⟩
  obtain ⟨W0, hW0⟩ : ∃ W0, W0 = w.alloc (.cells #[.slice none 0 0, .slice none 0 0] 38) := ⟨_, rfl⟩
  have hs0 : W0.heap.size = w.heap.size + 1 := by rw [hW0]; simp
  have HR : Hid (RowT (W0.alloc (.cells Z 4)) (w.heap.size + 1) n (usedL n 0)) := by
   show RowT _ _ _ _
   rw [usedL_zero]
   exact RowT.new W0 n hZ.out hs0.symm (by unfold maxLen; omega)
  rw [← hW0] at bx hB0
  go_enter Tryz.func24, Tryz.ntmps24
  go_wp2_with (go_at_call 59; refine (mayHave_any _ _).mono ?_; rw [hm]; rintro e w' ⟨rfl, rfl⟩)
  rw [← hW0]
  go_loopw [12] (fun v wr => ∃ j : Nat, j ≤ 10 ∧ v = .int .i64 j ∧ RowT wr (w.heap.size + 1) n (usedL n j) ∧ Below W0.heap.size W0 wr) (fun v _ => 10 - (intOf v).toNat)
  case atStart => exact ⟨0, by omega, rfl, HR.out, (Below.refl _ _).alloc (Nat.le_refl _) _⟩
  case round =>
   obtain ⟨j, hj, rfl, hrow, hbel⟩ := hrel
   have HW : Hid (RowT wr (w.heap.size + 1) n (usedL n j)) := hrow
   clear hrow
   by_cases hlt : j < 10
   ·
    have hlt' : (j : Int) < 10 := by omega
    have hjn : (j : Int) < n := by omega
    obtain ⟨hcy, hfy⟩ := HW.out.cell (usedL_get j (show j < n by omega))
    have hset : Hid (RowT (wr.setCell ⟨w.heap.size + 1, j, none⟩ (.bool true)) (w.heap.size + 1) n (usedL n (j + 1))) := by
     show RowT _ _ _ _
     rw [← usedL_set (show j < n by omega)]
     exact HW.out.set j _
    go_wp2
    go_roundw
    case rel => exact ⟨j + 1, by omega, by go_num, hset.out, hbel.setCell (p := ⟨w.heap.size + 1, j, none⟩) (by rw [hs0]; exact Nat.le_refl _) _⟩
    case measure => simp [intOf]; omega
   ·
    obtain rfl : j = 10 := by omega
    have hR : RowT wr (w.heap.size + 1) n (freshL n) := HW.out
    have cc := counting_any (some ⟨w.heap.size + 1, 0, none⟩) n n (freshL n) wr (freshL_length n).symm (by omega) hR.isB
    have HR2 : Hid (RowT wr (w.heap.size + 1) n (freshL n)) := hR
    clear hR HW HR
    go_wp2_with (go_at_call 60; refine cc.mono ?_; rintro e w1 ⟨a1, c1, rfl, ho, hb⟩; have HO : Hid (OwnT wr.heap.size w1 a1 c1 (freshL n)) := ho; have HB := Below.tr hbel hb; have HR3 : Hid (RowT w1 (w.heap.size + 1) n (freshL n)) := HR2.out.below hb; obtain ⟨⟨q0, q1⟩, f0, f1⟩ := bx.below HB; clear ho hb cc)
    have hsz : w.heap.size + 1 ≤ wr.heap.size := by rw [← hs0]; exact hbel.size
    refine bodyPost_ret (v := .tuple #[.agg #[.slice a1 n c1, .slice (some ⟨w.heap.size + 1, 0, none⟩) n n], .int .i64 0]) (by simp [results, Tryz.results24, go_sem, q0, q1]) rfl ⟨a1, c1, some ⟨w.heap.size + 1, 0, none⟩, n, by rw [E1.out, E2.out, freshL_length], ?_, ?_, below_set2 (Below.tr hB0 HB) (Nat.le_refl _)⟩
    ·
     rw [E1.out]
     exact ((HO.out.store (by omega) _ _).store (by omega) _ _).mono (by omega)
    ·
     rw [E1.out]
     have : OwnT (w.heap.size + 1) w1 (some ⟨w.heap.size + 1, 0, none⟩) n (freshL n) := .inr ⟨_, rfl, Nat.le_refl _, HR3.out⟩
     exact ((this.store (by omega) _ _).store (by omega) _ _).mono (by omega)
theorem two_box2 {w W : World} {v0 v1 u0 u1 : Value} {t : TypeId} (hW : W = (w.alloc (.cells #[v0, v1] t)).alloc (.cells #[u0, u1] t)) :
  Below w.heap.size w W ∧ W.heap.size = w.heap.size + 2 ∧ Box2 W w.heap.size v0 v1 ∧ Box2 W (w.heap.size + 1) u0 u1 := by
 subst hW
 refine ⟨((Below.refl _ _).alloc (Nat.le_refl _) _).alloc (by simp) _, by simp, (box2_new _ _ _ _ rfl).alloc _, box2_new _ _ _ _ (by simp)⟩
theorem take_wrong {b m : List Bool} (h : rightA b m = false) : takeE b m = 1 := by unfold takeE; rw [h]; rfl
theorem take_none {b m : List Bool} (h : rightA b m = true) (hp : takeP b m = -1) : takeE b m = 60 := by unfold takeE; rw [if_pos h, if_pos hp]
theorem take_some {b m : List Bool} (h : rightA b m = true) {p : Nat} (hp : takeP b m = p) : takeE b m = 0 := by unfold takeE; rw [if_pos h, if_neg (by omega)]
theorem take_err {b m : List Bool} (h : takeE b m ≠ 0) : takeK b m = 0 ∧ takeB b m = [] ∧ takeNow b m = [] := by unfold takeK takeB takeNow; rw [if_neg h, if_neg h, if_neg h]; exact ⟨rfl, rfl, rfl⟩
theorem took_ok {b m : List Bool} (h : takeE b m = 0) {p : Nat} (hp : takeP b m = p) : takeK b m = p ∧ takeB b m = b ∧ takeNow b m = m.set p true := by unfold takeK takeB takeNow; rw [if_pos h, if_pos h, if_pos h, hp]; exact ⟨rfl, rfl, rfl⟩
set_option maxRecDepth 20000 in
set_option maxHeartbeats 2000000 in
theorem allocTake_any (a a' : Option Addr) (c c' n n' : Nat) (b m : List Bool) (w : World) (hn : n = b.length) (hn' : n' = m.length) (hB : IsB w a c b) (hB' : IsB w a' c' m) :
  Calls Tryz.prog 25 #[.agg #[.slice a n c, .slice a' n' c']] w fun e w' => ∃ a1 c1 a2 c2, e = .returned (.tuple #[.agg #[.slice a1 (takeB b m).length c1, .slice a2 (takeNow b m).length c2], .int .i64 (takeK b m), .int .i64 (takeE b m)]) ∧ OwnT w.heap.size w' a1 c1 (takeB b m) ∧ OwnT w.heap.size w' a2 c2 (takeNow b m) ∧ Below w.heap.size w w' := by
 obtain ⟨W, hW⟩ : ∃ W, W = (w.alloc (.cells #[.slice a n c, .slice a' n' c'] 38)).alloc (.cells #[.slice none 0 0, .slice none 0 0] 38) := ⟨_, rfl⟩
 obtain ⟨hB0, hWs, bi, bo⟩ := two_box2 hW
 have HB : Below W.heap.size W W := Below.refl _ _
 have cr := allocRight_any a a' c c' n n' b m W hn hn' (hB.below hB0) (hB'.below hB0)
 have fin : ∀ k : Int, takeE b m = k → k ≠ 0 → ∀ w1, Below w.heap.size w w1 → ∃ a1 c1 a2 c2, Ending.returned (.tuple #[.agg #[.slice none 0 0, .slice none 0 0], .int .i64 0, .int .i64 k]) = .returned (.tuple #[.agg #[.slice a1 (takeB b m).length c1, .slice a2 (takeNow b m).length c2], .int .i64 (takeK b m), .int .i64 (takeE b m)]) ∧ OwnT w.heap.size w1 a1 c1 (takeB b m) ∧ OwnT w.heap.size w1 a2 c2 (takeNow b m) ∧ Below w.heap.size w w1 := by
  rintro k rfl hk w1 hb
  obtain ⟨e1, e2, e3⟩ := take_err hk
  rw [e1, e2, e3]
  exact ⟨none, 0, none, 0, rfl, OwnT_nil _ _, OwnT_nil _ _, hb⟩
 cases hr : rightA b m with
 | false =>
  have hE : Hid (takeE b m = 1) := take_wrong hr
  rw [hr, hW] at cr
  clear hn hn' hB hB'
  go_enter Tryz.func25, Tryz.ntmps25
  go_wp2_with (go_at_call 61; refine cr.mono ?_; rintro e w1 ⟨rfl, hb⟩; rw [← hW] at hb; replace HB := Below.tr HB hb; obtain ⟨⟨q0, q1⟩, f0, f1⟩ := bo.below hb; clear hb cr)
  refine bodyPost_ret (v := .tuple #[.agg #[.slice none 0 0, .slice none 0 0], .int .i64 0, .int .i64 1]) (by simp [results, Tryz.results25, go_sem, q0, q1]) rfl (fin 1 hE.out (by decide) _ ?_)
  exact below_set2 (Below.tr hB0 HB) (Nat.le_succ _)
 | true =>
  obtain ⟨hl, h24, h48, -⟩ := (rightA_iff b m).1 hr
  have hnb : n ≤ 4096 := by omega
  have hnb' : n' ≤ 4096 := by omega
  obtain ⟨P, hP⟩ : ∃ P, P = takeP b m := ⟨_, rfl⟩
  have cf : ∀ V, Below W.heap.size W V → Calls Tryz.prog 62 #[.int .i64 10, .slice (some ⟨V.heap.size, 0, none⟩) 2 2] (V.alloc (.cells #[.slice a n c, .slice a' n' c'] 36)) fun e w' => e = .returned (.int .i64 P) ∧ Below V.heap.size V w' := by
   intro V hV
   have := first_two V 10 a a' c c' n n' b m hn hn' (hB.below (Below.tr hB0 hV)) (hB'.below (Below.tr hB0 hV)) hnb hnb'
   rw [first_ten hr, ← hP] at this
   exact this
  rw [hr, hW] at cr
  rcases takeP_spec hl with ⟨e, -⟩ | ⟨p, e, hp, hf, -⟩
  ·
   have hE : Hid (takeE b m = 60) := take_none hr e
   obtain rfl : P = -1 := by rw [hP, e]
   clear hn hn' hB hB' hP
   go_enter Tryz.func25, Tryz.ntmps25
   go_wp2_with (first
    | (go_at_call 61; refine cr.mono ?_; rintro e w1 ⟨rfl, hb⟩; rw [← hW] at hb; replace HB := Below.tr HB hb; obtain ⟨⟨q0, q1⟩, -, -⟩ := bi.below hb; clear hb cr)
    | (go_at_call 62; refine (cf _ HB).mono ?_; rintro e w2 ⟨rfl, hb⟩; replace HB := Below.tr HB hb; obtain ⟨⟨q0, q1⟩, f0, f1⟩ := bo.below HB; clear hb cf))
   refine bodyPost_ret (v := .tuple #[.agg #[.slice none 0 0, .slice none 0 0], .int .i64 0, .int .i64 60]) (by simp [results, Tryz.results25, go_sem, q0, q1]) rfl (fin 60 hE.out (by decide) _ ?_)
   exact below_set2 (Below.tr hB0 HB) (Nat.le_succ _)
  ·
   have hE : takeE b m = 0 := take_some hr e
   obtain ⟨g1, g2, g3⟩ := took_ok hE e
   have G : Hid (takeE b m = 0 ∧ takeK b m = p ∧ takeB b m = b ∧ takeNow b m = m.set p true ∧ (m.set p true).length = n' ∧ b.length = n) := ⟨hE, g1, g2, g3, by rw [List.length_set, hn'], hn.symm⟩
   obtain rfl : P = p := by rw [hP, e]
   have hpn : p < n' := by omega
   have ep : ((p : Int) == -1) = false := by rw [beq_eq_false_iff_ne]; omega
   have cw : ∀ V, Below W.heap.size W V → Calls Tryz.prog 63 #[.slice a' n' c', .bool true, .slice (some ⟨V.heap.size, 0, none⟩) 1 1] (V.alloc (.cells #[.int .i64 p] 3)) fun e w' => ∃ a2 c2, e = .returned (.tuple #[.slice a2 n' c2, .int .i64 0]) ∧ OwnT V.heap.size w' a2 c2 (m.set p true) ∧ Below V.heap.size V w' :=
    fun V hV => with_own_one V a' c' n' m true p hn' (hB'.below (Below.tr hB0 hV)) hnb' hpn
   have cm : ∀ V a2 c2, Below W.heap.size W V → Calls Tryz.prog 64 #[.slice a n c, .slice a2 n' c2] V fun e w' => ∃ a1 c1, e = .returned (.agg #[.slice a1 n c1, .slice a2 n' c2]) ∧ OwnT V.heap.size w' a1 c1 b ∧ Below V.heap.size V w' :=
    fun V a2 c2 hV => making_any a a2 c c2 n n' b V hn hnb (hB.below (Below.tr hB0 hV))
   clear hn hn' hB hB' hP g1 g2 g3 hE e
   go_enter Tryz.func25, Tryz.ntmps25
   go_wp2_with (first
    | (go_at_call 61; refine cr.mono ?_; rintro e w1 ⟨rfl, hb⟩; rw [← hW] at hb; replace HB := Below.tr HB hb; obtain ⟨⟨q0, q1⟩, -, -⟩ := bi.below hb; clear hb cr)
    | (go_at_call 62; refine (cf _ HB).mono ?_; rintro e w2 ⟨rfl, hb⟩; replace HB := Below.tr HB hb; obtain ⟨⟨r0, r1⟩, -, -⟩ := bi.below HB; clear hb cf)
    | (go_at_call 63; refine (cw _ HB).mono ?_; rintro e w3 ⟨a2, c2, rfl, ho, hb⟩; have O2 : Hid (OwnT W.heap.size w3 a2 c2 (m.set p true)) := ho.mono HB.size; replace HB := Below.tr HB hb; obtain ⟨⟨s0, s1⟩, -, -⟩ := bi.below HB; clear hb cw ho)
    | (go_at_call 64; refine (cm _ a2 c2 HB).mono ?_; rintro e w4 ⟨a1, c1, rfl, ho, hb⟩; have O1 : Hid (OwnT W.heap.size w4 a1 c1 b) := ho.mono HB.size; replace HB := Below.tr HB hb; have O3 : Hid (OwnT W.heap.size w4 a2 c2 (m.set p true)) := O2.out.below hb; obtain ⟨⟨t0, t1⟩, f0, f1⟩ := bo.below HB; clear hb cm ho O2))
   obtain ⟨g0, g1, g2, g3, g4, g5⟩ := G.out
   refine bodyPost_ret (v := .tuple #[.agg #[.slice a1 n c1, .slice a2 n' c2], .int .i64 p, .int .i64 0]) (by simp [results, Tryz.results25, go_sem, t0, t1]) rfl ⟨a1, c1, a2, c2, by rw [g0, g1, g2, g3, g4, g5], ?_, ?_, below_set2 (Below.tr hB0 HB) (Nat.le_succ _)⟩
   ·
    rw [g2]
    exact ((O1.out.store (by omega) _ _).store (by omega) _ _).mono (by omega)
   ·
    rw [g3]
    exact ((O3.out.store (by omega) _ _).store (by omega) _ _).mono (by omega)
end Go.Proofs.YtaobfgplheoefaaGreat
namespace Go.Proofs.YtaobfgplheoefaaGreat.Plain
open Go.RowKit Go.Proofs.YtaobfgplheoefaaGreat
def usE (s : ByteArray) (g z : Int) : Int := if wantE s [3] = 0 then (if wantG s [3] ≤ g then unE (wantB s [3]) z else 120) else wantE s [3]
def usL (s : ByteArray) (g z : Int) : List Bool := if usE s g z = 0 then unL (wantB s [3]) z else []
def pgL (bs : List ByteArray) (us : List Bool) : List ByteArray := (List.range us.length).map fun i => if atB us i = true then blk bs i else ByteArray.empty
theorem pgL_length (bs : List ByteArray) (us : List Bool) : (pgL bs us).length = us.length := by simp [pgL]
theorem pgL_get (bs : List ByteArray) {us : List Bool} {i : Nat} {u : Bool} (h : us[i]? = some u) : (pgL bs us)[i]? = some (if u = true then blk bs i else ByteArray.empty) := by
 have hi := (List.getElem?_eq_some_iff.1 h).1
 unfold pgL
 rw [List.getElem?_map, List.getElem?_range hi]
 have : atB us i = u := by unfold atB; rw [h]; rfl
 simp [this]
theorem us_length {s : ByteArray} {g : Int} {z : Nat} (h : usE s g z = 0) : (usL s g z).length = z := by
 unfold usL
 rw [if_pos h]
 unfold usE at h
 split at h
 ·
  split at h
  ·
   rw [unL_ok h, unpackL_length]
  ·
   cases h
 ·
  contradiction
def mapS (g : Int) (l : List Bool) : ByteArray := pageS 3 g (packS l)
theorem mapS_right {g : Int} {l : List Bool} (h0 : 0 ≤ g) (h1 : g ≤ 1099511627776) (hl : l.length ≤ 2048) : rightP 3 g (packS l) = true := by
 rw [rightP_iff, packS_size]
 unfold sizeB
 omega
theorem mapS_want {g : Int} {l : List Bool} (h0 : 0 ≤ g) (h1 : g ≤ 1099511627776) (hl : l.length ≤ 2048) : wantE (mapS g l) [3] = 0 ∧ wantG (mapS g l) [3] = g ∧ wantB (mapS g l) [3] = packS l := by
 have hm := pageS_max 3 g (packS l)
 have := page_back (mapS_right h0 h1 hl) 0 (by omega)
 rw [show pageS 3 g (packS l) ++ zeros 0 = mapS g l by apply bytes_ext; simp [mapS, zeros]] at this
 obtain ⟨e0, e1, e2, e3⟩ := this
 have hE : wantE (mapS g l) [3] = 0 := by unfold wantE; rw [if_pos e0, e1, if_pos (by simp)]
 refine ⟨hE, ?_, ?_⟩
 ·
  unfold wantG; rw [if_pos hE, e2]
 ·
  unfold wantB; rw [if_pos hE, e3]
theorem mapS_us {g h : Int} {l : List Bool} (h0 : 0 ≤ g) (hg : g ≤ h) (h1 : g ≤ 1099511627776) (hl : l.length ≤ 2048) : usE (mapS g l) h l.length = 0 ∧ usL (mapS g l) h l.length = l := by
 obtain ⟨e0, e1, e2⟩ := mapS_want h0 h1 hl
 have hu : unE (packS l) l.length = 0 := unE_ok hl (by rw [unpack_pack])
 have hE : usE (mapS g l) h l.length = 0 := by unfold usE; rw [if_pos e0, e1, if_pos hg, e2, hu]
 refine ⟨hE, ?_⟩
 unfold usL
 rw [if_pos hE, e2, unL_ok hu, unpack_pack]
def fmtL (n : Nat) : List ByteArray := ((List.replicate n ByteArray.empty).set 0 (suS 1 0 10 n)).set 10 (mapS 1 (usedL n 11))
theorem fmtL_length (n : Nat) : (fmtL n).length = n := by simp [fmtL]
theorem fmtL_get {n i : Nat} (h : i < n) : (fmtL n)[i]? = some (if i = 10 then mapS 1 (usedL n 11) else if i = 0 then suS 1 0 10 n else ByteArray.empty) := by
 unfold fmtL
 rw [List.getElem?_set, List.getElem?_set]
 by_cases h1 : i = 10
 ·
  subst h1
  rw [if_pos rfl, if_pos rfl, if_pos (by simpa using h)]
 ·
  rw [if_neg (fun hh => h1 hh.symm), if_neg h1]
  by_cases h2 : i = 0
  ·
   subst h2
   rw [if_pos rfl, if_pos rfl, if_pos (by simpa using h)]
  ·
   rw [if_neg (fun hh => h2 hh.symm), if_neg h2, List.getElem?_replicate, if_pos h]
theorem fmtL_blk {n i : Nat} (h : i < n) : blk (fmtL n) i = (if i = 10 then mapS 1 (usedL n 11) else if i = 0 then suS 1 0 10 n else ByteArray.empty) := by
 unfold blk; rw [fmtL_get h]; rfl
theorem su_fmt {n : Nat} (h : 24 ≤ n) (h' : n ≤ 2048) : rightSu 1 0 10 n = true := (rightSu_iff _ _ _ _).2 (by omega)
theorem suS_ok (g r m z : Int) : okS (suS g r m z) = true := by
 rw [okS_iff]
 unfold suS
 split
 ·
  rename_i h
  refine ⟨by have := pageS_max 4 g (bodySu r m z); omega, ?_⟩
  rw [pageS_ok (bodySu_page h)]
  exact even_trim _
 ·
  exact ⟨by decide, fun h => absurd h (by decide)⟩
theorem mapS_ok (g : Int) (l : List Bool) : okS (mapS g l) = true := by
 rw [okS_iff]
 refine ⟨by have := pageS_max 3 g (packS l); unfold mapS; omega, ?_⟩
 unfold mapS
 cases h : rightP 3 g (packS l) with
 | true => rw [pageS_ok h]; exact even_trim _
 | false => rw [pageS_bad h]; exact fun h => absurd h (by decide)
theorem okS_none : okS ByteArray.empty = true := (okS_iff _).2 ⟨by decide, fun h => absurd h (by decide)⟩
theorem fmtL_right {n : Nat} (h : 24 ≤ n) (h' : n ≤ 2048) : rightD (fmtL n) [] = true := by
 rw [rightD_iff, fmtL_length]
 refine ⟨⟨by omega, h', by simp⟩, fun s hs => ?_, fun p hp => by cases hp⟩
 obtain ⟨i, hi, hx⟩ := List.getElem_of_mem hs
 rw [fmtL_length] at hi
 have := fmtL_get hi
 rw [List.getElem?_eq_getElem (by rw [fmtL_length]; exact hi), hx] at this
 rw [Option.some.inj this]
 split
 ·
  exact mapS_ok _ _
 ·
  split
  ·
   exact suS_ok _ _ _ _
  ·
   exact okS_none
theorem fmt_best {n : Nat} (h : 24 ≤ n) (h' : n ≤ 2048) : Best [suS 1 0 10 n, ByteArray.empty] (suS 1 0 10 n) 0 := by
 obtain ⟨s0, s1, _⟩ := su_back (su_fmt h h')
 obtain ⟨n0, _⟩ := su_none
 refine ⟨fun j x hx => ?_, fun hh => by omega, fun _ => ⟨rfl, fun j x hj => by omega⟩⟩
 match j, hx with
 | 0, hx => obtain rfl := Option.some.inj hx; exact Int.le_refl _
 | 1, hx =>
  obtain rfl := Option.some.inj hx
  have : suG ByteArray.empty = 0 := n0
  omega
theorem usedL_eleven {n : Nat} (h : 24 ≤ n) : (freshL n).set 10 true = usedL n 11 := by
 rw [← usedL_ten, usedL_set (by omega)]
theorem fmt_take {n : Nat} (h : 24 ≤ n) (h' : n ≤ 2048) : takeP (freshL n) (freshL n) = 10 ∧ takeE (freshL n) (freshL n) = 0 ∧ takeK (freshL n) (freshL n) = 10 ∧ takeB (freshL n) (freshL n) = freshL n ∧ takeNow (freshL n) (freshL n) = usedL n 11 := by
 have hr := freshL_right h h'
 have hp : takeP (freshL n) (freshL n) = ((10 : Nat) : Int) := by
  rcases takeP_spec (b := freshL n) (n := freshL n) rfl with ⟨_, h1⟩ | ⟨p, h1, h2, h3, h4⟩
  ·
   have := h1 10 (by rw [freshL_length]; omega)
   rw [freeB, freshL_at (by omega)] at this
   simp at this
   rw [freshL_length] at this
   omega
  ·
   rw [h1]
   rw [freshL_length] at h2
   have a1 : ¬ p < 10 := by
    intro hl
    rw [freeB, freshL_at h2] at h3
    simp [hl] at h3
   have a2 : ¬ 10 < p := by
    intro hl
    have := h4 10 hl
    rw [freeB, freshL_at (by omega)] at this
    simp at this
    rw [freshL_length] at this
    omega
   omega
 have hE := take_some hr hp
 obtain ⟨k1, k2, k3⟩ := took_ok hE hp
 exact ⟨hp, hE, k1, k2, by rw [k3, usedL_eleven h]⟩
end Go.Proofs.YtaobfgplheoefaaGreat.Plain
namespace Go.Proofs.YtaobfgplheoefaaGreat
open Go.RowKit Plain
set_option linter.unusedVariables false
set_option maxRecDepth 20000
set_option maxRecDepth 20000
def IsP (w : World) (a : Option Addr) (c : Nat) (ps : List (Int × ByteArray)) : Prop :=
 ps.length ≤ c ∧ c ≤ maxLen ∧ ∀ j p, ps[j]? = some p → ∃ b o, a = some ⟨b, o, none⟩ ∧ b < w.heap.size ∧ w.cell? ⟨b, o + j * 2, none⟩ = some (.int .i64 p.1) ∧ w.cell? ⟨b, o + j * 2 + 1, none⟩ = some (.string p.2) ∧ p.2.size ≤ maxLen ∧ -9223372036854775808 ≤ p.1 ∧ p.1 ≤ 9223372036854775807
theorem IsP.below {w w' : World} {a : Option Addr} {c : Nat} {ps : List (Int × ByteArray)} (h : IsP w a c ps) (hb : Below w.heap.size w w') : IsP w' a c ps := by
 refine ⟨h.1, h.2.1, fun j x hx => ?_⟩
 obtain ⟨b, o, ha, hlt, hc, hc2, hs⟩ := h.2.2 j x hx
 exact ⟨b, o, ha, Nat.lt_of_lt_of_le hlt hb.size, by rw [hb.cell (p := ⟨b, o + j * 2, none⟩) hlt]; exact hc, by rw [hb.cell (p := ⟨b, o + j * 2 + 1, none⟩) hlt]; exact hc2, hs⟩
theorem hasBlock_any (a a' : Option Addr) (n c n' c' : Nat) (k : Int) (w : World) (hn : n ≤ maxLen) :
  Calls Tryz.prog 71 #[.agg #[.slice a n c, .slice a' n' c'], .int .i64 k] w fun e w' => e = .returned (.bool (decide (0 ≤ k) && decide (k < n))) ∧ Below w.heap.size w w' := by
 unfold maxLen at hn
 by_cases h0 : 0 ≤ k
 ·
  go_enter Tryz.func71, Tryz.ntmps71
  go_wp2
  go_ret
  exact ⟨ret_bool (by simp [h0]), (Below.refl _ _).alloc (Nat.le_refl _) _⟩
 ·
  go_enter Tryz.func71, Tryz.ntmps71
  go_wp2
  go_ret
  exact ⟨ret_bool (by rw [decide_eq_false (by omega : ¬ 0 ≤ k)]; rfl), (Below.refl _ _).alloc (Nat.le_refl _) _⟩
theorem trim_same (s : ByteArray) : (trimS s = s) ↔ (trimS s).size = s.size := by
 constructor
 ·
  intro h; rw [h]
 ·
  intro h
  rw [trimS_size] at h
  exact byteAt_ext (by rw [trimS_size, h]) fun j _ => byteAt_trim s j
theorem mayLie_any (s : ByteArray) (w : World) (hs : s.size ≤ maxLen) :
  Calls Tryz.prog 70 #[.string s] w fun e w' => e = .returned (.bool (okS s)) ∧ w = w' := by
 have hs' : s.size ≤ 9223372036854775807 := hs
 have hts : (trimS s).size ≤ 9223372036854775807 := Nat.le_trans (trimS_le s) hs'
 by_cases h : s.size ≤ 4096
 ·
  have e : Hid (okS s = (((trimS s).size : Int) == (s.size : Int))) := by
   show _ = _
   unfold okS
   rw [decide_eq_true h, Bool.true_and, Bool.eq_iff_iff, decide_eq_true_eq, trim_same, beq_iff_eq]
   omega
  have h' : (s.size : Int) ≤ 4096 := by omega
  go_enter Tryz.func70, Tryz.ntmps70
  go_wp2_with (go_at_call 114; refine (trim_any s _ hs).mono ?_; rintro e w3 ⟨rfl, rfl⟩)
  go_ret
  exact ⟨ret_bool e.out.symm, rfl⟩
 ·
  have e : Hid (okS s = false) := by
   show _ = _
   unfold okS
   rw [decide_eq_false h]; rfl
  have h' : ¬ (s.size : Int) ≤ 4096 := by omega
  go_enter Tryz.func70, Tryz.ntmps70
  go_wp2
  go_ret
  exact ⟨ret_bool e.out.symm, rfl⟩
theorem rightD_size {bs : List ByteArray} {ps : List (Int × ByteArray)} (h : ¬ (1 ≤ bs.length ∧ bs.length ≤ 2048 ∧ ps.length ≤ 2048)) : rightD bs ps = false := by
 rw [Bool.eq_false_iff]
 exact fun hr => h ((rightD_iff bs ps).1 hr).1
theorem rightD_block {bs : List ByteArray} {ps : List (Int × ByteArray)} {j : Nat} {x : ByteArray} (hj : bs[j]? = some x) (h : okS x = false) : rightD bs ps = false := by
 rw [Bool.eq_false_iff]
 intro hr
 have := ((rightD_iff bs ps).1 hr).2.1 x (List.mem_of_getElem? hj)
 rw [h] at this
 cases this
theorem rightD_write {bs : List ByteArray} {ps : List (Int × ByteArray)} {j : Nat} {p : Int × ByteArray} (hj : ps[j]? = some p) (h : okW bs.length p = false) : rightD bs ps = false := by
 rw [Bool.eq_false_iff]
 intro hr
 have := ((rightD_iff bs ps).1 hr).2.2 p (List.mem_of_getElem? hj)
 rw [h] at this
 cases this
theorem devTake_all {α : Type} {f : α → Bool} {l : List α} {j : Nat} {x : α} (h : ∀ y ∈ l.take j, f y = true) (hj : l[j]? = some x) (hx : f x = true) : ∀ y ∈ l.take (j + 1), f y = true := by
 intro y hy
 rw [List.take_add_one, hj, List.mem_append] at hy
 rcases hy with hy | hy
 ·
  exact h y hy
 ·
  simp at hy; rw [hy]; exact hx
set_option maxHeartbeats 1000000 in
theorem right_any (a a' : Option Addr) (c c' : Nat) (bs : List ByteArray) (ps : List (Int × ByteArray)) (w : World) (hS : IsS w a c bs) (hP : IsP w a' c' ps) :
  Calls Tryz.prog 31 #[.agg #[.slice a bs.length c, .slice a' ps.length c']] w fun e w' => e = .returned (.bool (rightD bs ps)) ∧ Below w.heap.size w w' := by
 have hB0 : Below w.heap.size w (w.alloc (.cells #[.slice a bs.length c, .slice a' ps.length c'] 25)) := (Below.refl _ _).alloc (Nat.le_refl _) _
 have HS : Hid (IsS _ a c bs) := hS.below hB0
 have HP : Hid (IsP _ a' c' ps) := hP.below hB0
 have hm : bs.length ≤ 9223372036854775807 := Nat.le_trans hS.1 hS.2.1
 have hm' : ps.length ≤ 9223372036854775807 := Nat.le_trans hP.1 hP.2.1
 clear hS hP
 by_cases hsz : 1 ≤ bs.length ∧ bs.length ≤ 2048 ∧ ps.length ≤ 2048
 ·
  obtain ⟨h1, h2, h3⟩ := hsz
  have h1' : 1 ≤ (bs.length : Int) := by omega
  have h2' : (bs.length : Int) ≤ 2048 := by omega
  have h3' : (ps.length : Int) ≤ 2048 := by omega
  go_enter Tryz.func31, Tryz.ntmps31
  go_wp2
  go_loop [26] (fun v => ∃ j : Nat, j ≤ bs.length ∧ v = .int .i64 j ∧ ∀ y ∈ bs.take j, okS y = true) (fun v => bs.length - (intOf v).toNat)
  case atStart => exact ⟨0, by omega, rfl, fun y hy => by simp at hy⟩
  case round =>
   obtain ⟨j, hj, rfl, HA⟩ := hrel
   by_cases hlt : j < bs.length
   ·
    obtain ⟨x, hx⟩ : ∃ x, bs[j]? = some x := ⟨_, List.getElem?_eq_getElem hlt⟩
    obtain ⟨b, o, rfl, hlb, hc, hxs⟩ := HS.out.2.2 j x hx
    have hA' : Hid (okS x = true → ∀ y ∈ bs.take (j + 1), okS y = true) := devTake_all HA hx
    have hF : Hid (okS x = false → rightD bs ps = false) := rightD_block hx
    clear HA hx hlb
    have hlt' : (j : Int) < bs.length := by omega
    cases hok : okS x with
    | true =>
     go_wp2_with (go_at_call 70; refine (mayLie_any x _ hxs).mono ?_; rw [hok]; rintro e w3 ⟨rfl, rfl⟩)
     go_round
     case rel => exact ⟨j + 1, by omega, by go_num, hA'.out hok⟩
     case measure => simp [intOf]; omega
    | false =>
     go_wp2_with (go_at_call 70; refine (mayLie_any x _ hxs).mono ?_; rw [hok]; rintro e w3 ⟨rfl, rfl⟩)
     go_ret
     exact ⟨ret_bool (hF.out hok).symm, hB0⟩
   ·
    obtain rfl : j = bs.length := by omega
    rw [List.take_length] at HA
    have HB : Hid (∀ y ∈ bs, okS y = true) := HA
    clear HA hj hlt
    obtain ⟨W, hW⟩ : ∃ W, W = w.alloc (.cells #[.slice a bs.length c, .slice a' ps.length c'] 25) := ⟨_, rfl⟩
    go_wp2
    go_loopw [37] (fun v wr => ∃ j : Nat, j ≤ ps.length ∧ v = .int .i64 j ∧ (∀ y ∈ ps.take j, okW bs.length y = true) ∧ Below W.heap.size W wr) (fun v _ => ps.length - (intOf v).toNat)
    case atStart => exact ⟨0, by omega, rfl, fun y hy => by simp at hy, by rw [hW]; exact Below.refl _ _⟩
    case round =>
     obtain ⟨j, hj, rfl, HA, hbel⟩ := hrel
     by_cases hlt : j < ps.length
     ·
      obtain ⟨p, hx⟩ : ∃ x, ps[j]? = some x := ⟨_, List.getElem?_eq_getElem hlt⟩
      rw [← hW] at HP hB0
      obtain ⟨b, o, rfl, hlb, hc1, hc2, hxs, hlo, hhi⟩ := HP.out.2.2 j p hx
      rw [← hbel.cell (p := ⟨b, o + j * 2, none⟩) hlb] at hc1
      rw [← hbel.cell (p := ⟨b, o + j * 2 + 1, none⟩) hlb] at hc2
      have hd0 : wr.cell? ⟨w.heap.size, 0, none⟩ = some (.slice a bs.length c) := by
       rw [hbel.cell (p := ⟨w.heap.size, 0, none⟩) (by rw [hW]; simp), hW]; simp
      have hd1 : wr.cell? ⟨w.heap.size, 1, none⟩ = some (.slice (some ⟨b, o, none⟩) ps.length c') := by
       rw [hbel.cell (p := ⟨w.heap.size, 1, none⟩) (by rw [hW]; simp), hW]; simp
      replace hd0 := cell_alloc hd0
      replace hd1 := cell_alloc hd1
      have hA' : Hid (okW bs.length p = true → ∀ y ∈ ps.take (j + 1), okW bs.length y = true) := devTake_all HA hx
      have hF : Hid (okW bs.length p = false → rightD bs ps = false) := rightD_write hx
      have hlt' : (j : Int) < ps.length := by omega
      have hBW := hbel.size
      have hBw : Below w.heap.size w wr := Below.tr hB0 hbel
      clear HA hx hlb HS HP hW
      cases hh : (decide (0 ≤ p.1) && decide (p.1 < bs.length)) with
      | true =>
       cases hok : okS p.2 with
       | true =>
        have hw1 : Hid (okW bs.length p = true) := by show _ = _; unfold okW; rw [hh, hok]; rfl
        go_wp2_with (first
         | (go_at_call 71; refine (hasBlock_any _ _ _ _ _ _ p.1 _ hm).mono ?_; rw [hh]; rintro e w3 ⟨rfl, hb⟩; have hq : w3.cell? ⟨wr.heap.size, 1, none⟩ = some (.string p.2) := by (rw [hb.cell (p := ⟨wr.heap.size, 1, none⟩) (by simp)]; simp))
         | (go_at_call 70; refine (mayLie_any p.2 _ hxs).mono ?_; rw [hok]; rintro e w4 ⟨rfl, rfl⟩))
        go_roundw
        case rel => exact ⟨j + 1, by omega, by go_num, hA'.out hw1.out, (hbel.alloc hBW _).trans (hb.mono (by simp; omega))⟩
        case measure => simp [intOf]; omega
       | false =>
        have hw1 : Hid (okW bs.length p = false) := by show _ = _; unfold okW; rw [hh, hok]; rfl
        go_wp2_with (first
         | (go_at_call 71; refine (hasBlock_any _ _ _ _ _ _ p.1 _ hm).mono ?_; rw [hh]; rintro e w3 ⟨rfl, hb⟩; have hq : w3.cell? ⟨wr.heap.size, 1, none⟩ = some (.string p.2) := by (rw [hb.cell (p := ⟨wr.heap.size, 1, none⟩) (by simp)]; simp))
         | (go_at_call 70; refine (mayLie_any p.2 _ hxs).mono ?_; rw [hok]; rintro e w4 ⟨rfl, rfl⟩))
        go_ret
        exact ⟨ret_bool (hF.out hw1.out).symm, Below.tr (hBw.alloc hBw.size _) hb⟩
      | false =>
       have hw1 : Hid (okW bs.length p = false) := by show _ = _; unfold okW; rw [hh]; rfl
       go_wp2_with (go_at_call 71; refine (hasBlock_any _ _ _ _ _ _ p.1 _ hm).mono ?_; rw [hh]; rintro e w3 ⟨rfl, hb⟩)
       go_ret
       exact ⟨ret_bool (hF.out hw1.out).symm, Below.tr (hBw.alloc hBw.size _) hb⟩
     ·
      obtain rfl : j = ps.length := by omega
      rw [List.take_length] at HA
      have ht : Hid (rightD bs ps = true) := (rightD_iff bs ps).2 ⟨⟨h1, h2, h3⟩, HB.out, HA⟩
      rw [← hW] at hB0
      have hBw : Below w.heap.size w wr := Below.tr hB0 hbel
      clear HA
      go_wp2
      go_ret
      exact ⟨ret_bool ht.out.symm, hBw⟩
 ·
  have hf : Hid (rightD bs ps = false) := rightD_size hsz
  go_enter Tryz.func31, Tryz.ntmps31
  go_wp2
  all_goals first
   | (go_ret; exact ⟨ret_bool hf.out.symm, hB0⟩)
   | omega
set_option maxRecDepth 20000
theorem box_cells {w w' : World} {v0 v1 : Value} {t : TypeId} (hb : Below (w.alloc (.cells #[v0, v1] t)).heap.size (w.alloc (.cells #[v0, v1] t)) w') :
  w'.cell? ⟨w.heap.size, 0, none⟩ = some v0 ∧ w'.cell? ⟨w.heap.size, 1, none⟩ = some v1 :=
 ⟨cell_below hb (World.cell?_alloc_at _ _ _ _ rfl), cell_below hb (World.cell?_alloc_at _ _ _ _ rfl)⟩
theorem IsP_nil (w : World) : IsP w none 0 [] := ⟨Nat.le_refl _, Nat.zero_le _, fun j p h => by simp at h⟩
theorem IsS_nil (w : World) : IsS w none 0 [] := ⟨Nat.le_refl _, Nat.zero_le _, fun j p h => by simp at h⟩
def blkE (bs : List ByteArray) (ps : List (Int × ByteArray)) (k : Int) : Int :=
 if rightD bs ps = true then (if (decide (0 ≤ k) && decide (k < bs.length)) = true then 0 else 30) else 1
theorem IsS.some {w : World} {a : Option Addr} {c : Nat} {bs : List ByteArray} (h : IsS w a c bs) (hn : 0 < bs.length) : ∃ b o, a = some ⟨b, o, none⟩ := by
 obtain ⟨b, o, ha, _⟩ := h.2.2 0 _ (List.getElem?_eq_getElem hn)
 exact ⟨b, o, ha⟩
theorem checkBlock_any (a a' : Option Addr) (c c' : Nat) (bs : List ByteArray) (ps : List (Int × ByteArray)) (k : Int) (w : World) (hS : IsS w a c bs) (hP : IsP w a' c' ps) :
  Calls Tryz.prog 122 #[.agg #[.slice a bs.length c, .slice a' ps.length c'], .int .i64 k] w fun e w' => e = .returned (.int .i64 (blkE bs ps k)) ∧ Below w.heap.size w w' := by
 have hm : bs.length ≤ maxLen := Nat.le_trans hS.1 hS.2.1
 have hB0 : Below w.heap.size w (w.alloc (.cells #[.slice a bs.length c, .slice a' ps.length c'] 25)) := (Below.refl _ _).alloc (Nat.le_refl _) _
 have c1 := right_any a a' c c' bs ps _ (hS.below hB0) (hP.below hB0)
 have c2 := fun W => hasBlock_any a a' bs.length c ps.length c' k W hm
 clear hS hP hm
 cases hr : rightD bs ps with
 | false =>
  have e : Hid (blkE bs ps k = 1) := by show _ = _; unfold blkE; rw [hr]; rfl
  rw [hr] at c1
  go_enter Tryz.func122, Tryz.ntmps122
  go_wp2_with (go_at_call 31; refine c1.mono ?_; rintro e w1 ⟨rfl, hb⟩)
  go_ret
  exact ⟨by rw [e.out]; rfl, Below.tr hB0 hb⟩
 | true =>
  rw [hr] at c1
  cases hk : (decide (0 ≤ k) && decide (k < bs.length)) with
  | false =>
   have e : Hid (blkE bs ps k = 30) := by show _ = _; unfold blkE; rw [hr, hk]; rfl
   rw [hk] at c2
   go_enter Tryz.func122, Tryz.ntmps122
   go_wp2_with (first
    | (go_at_call 31; refine c1.mono ?_; rintro e w1 ⟨rfl, hb⟩; obtain ⟨hq0, hq1⟩ := box_cells hb)
    | (go_at_call 71; refine (c2 _).mono ?_; rintro e w2 ⟨rfl, hb2⟩))
   go_ret
   exact ⟨by rw [e.out]; rfl, Below.tr (Below.tr hB0 hb) hb2⟩
  | true =>
   have e : Hid (blkE bs ps k = 0) := by show _ = _; unfold blkE; rw [hr, hk]; rfl
   rw [hk] at c2
   go_enter Tryz.func122, Tryz.ntmps122
   go_wp2_with (first
    | (go_at_call 31; refine c1.mono ?_; rintro e w1 ⟨rfl, hb⟩; obtain ⟨hq0, hq1⟩ := box_cells hb)
    | (go_at_call 71; refine (c2 _).mono ?_; rintro e w2 ⟨rfl, hb2⟩))
   go_ret
   exact ⟨by rw [e.out]; rfl, Below.tr (Below.tr hB0 hb) hb2⟩
end Go.Proofs.YtaobfgplheoefaaGreat
namespace Go.Proofs.YtaobfgplheoefaaGreat
open Go.RowKit Go.Shelf Plain
set_option linter.unusedVariables false
attribute [local go_sem] Oper.semAt_some
def backAt (ps : List (Int × ByteArray)) (j : Nat) : Int × (Int × ByteArray) := ((ps.length : Int) - 1 - j, ps[ps.length - 1 - j]?.getD (0, ByteArray.empty))
def backL (ps : List (Int × ByteArray)) (k : Nat) : List (Int × (Int × ByteArray)) := (List.range k).map (backAt ps)
theorem backL_succ (ps : List (Int × ByteArray)) (k : Nat) : backL ps (k + 1) = backL ps k ++ [backAt ps k] := by simp [backL, List.range_succ]
theorem backL_length (ps : List (Int × ByteArray)) (k : Nat) : (backL ps k).length = k := by simp [backL]
def backV (x : Int × (Int × ByteArray)) : Array Value := #[.int .i64 x.1, .agg #[.int .i64 x.2.1, .string x.2.2]]
set_option maxRecDepth 100000 in
set_option maxHeartbeats 2000000 in
theorem back1_in (F : Fence) (n : Nat) (h7 : F.fn 155) (hro : F.round = none) (hn : 1 ≤ n) (l Bs c : Nat) (a : Option Addr) (ps : List (Int × ByteArray)) (hl : ps.length ≤ 2048) (W0 : World) (hB : Bs < W0.heap.size)
  (hBs : W0.cell? ⟨Bs, 0, none⟩ = some (.slice a ps.length c)) (hP : IsP W0 a c ps) (J Jx : List (Int × (Int × ByteArray)) → World → Prop)
  (hY : ∀ pre x W, J pre W → pre.length < ps.length → YieldAt F (n - 1) Tryz.prog l (backV x) W fun e W' =>
   (e = .returned (.bool true) ∧ J (pre ++ [x]) W' ∧ Below W0.heap.size W W') ∨ (e = .returned (.bool false) ∧ Jx (pre ++ [x]) W'))
  (W : World) (hW : Below W0.heap.size W0 W) (h0 : J [] W) :
  CallsIn F n Tryz.prog 155 #[.func (.yield l) #[] #[], .pointer (some ⟨Bs, 0, none⟩)] W fun e W' => (∃ v, e = .returned v) ∧
   ((∃ ys, ys = backL ps ps.length ∧ J ys W') ∨ (∃ pre, (∃ k, k ≤ ps.length ∧ pre = backL ps k) ∧ Jx pre W')) := by
 have hb0 := cell_below hW hBs
 have HP : Hid (IsP W0 a c ps) := hP
 clear hP
 refine callsIn_of_wp Tryz.func155 rfl h7 ?_ hro
 simp only [Tryz.ntmps155, List.size_toArray, List.length_cons, List.length_nil, Nat.reduceAdd, Nat.reduceSub, Array.replicate_succ, Array.replicate_zero, List.push_toArray, List.append_toArray, List.nil_append, List.cons_append]
 gi_wp2
 gi_loopw [3] (fun i wr => ∃ k : Nat, k ≤ ps.length ∧ i = .int .i64 ((ps.length : Int) - 1 - k) ∧ J (backL ps k) wr ∧ Below W0.heap.size W0 wr)
  (fun i _ => (intOf i + 1).toNat)
 case atStart => exact ⟨0, Nat.zero_le _, by simp, h0, hW⟩
 case round =>
  obtain ⟨k, hk, rfl, hJs, hnx⟩ := hrel
  have hcb := cell_below hnx hBs
  by_cases hlt : k < ps.length
  ·
   obtain ⟨p, hp⟩ : ∃ p, ps[ps.length - 1 - k]? = some p := ⟨_, List.getElem?_eq_getElem (by omega)⟩
   obtain ⟨b, o, rfl, hlb, hc1, hc2, hxs, hlo, hhi⟩ := HP.out.2.2 _ p hp
   replace hc1 := cell_below hnx hc1
   replace hc2 := cell_below hnx hc2
   have hx : backAt ps k = ((ps.length : Int) - 1 - k, p) := by unfold backAt; rw [hp]; rfl
   obtain ⟨m, hm⟩ : ∃ m, m = ps.length - 1 - k := ⟨_, rfl⟩
   have hmi : (ps.length : Int) - 1 - k = m := by omega
   obtain ⟨fn, tmps, assign, body, hy, hR⟩ := hY _ (backAt ps k) wr hJs (by rw [backL_length]; exact hlt)
   rw [← hm] at hc1 hc2
   rw [hx, hmi] at hy hR
   rw [hmi]
   dsimp only [backV] at hy
   have hmlt : (m : Int) < ps.length := by omega
   have hmn : m < ps.length := by omega
   have Hk : Hid ((ps.length : Int) - 1 - k = m) := hmi
   have Hx : Hid (backAt ps k = ((m : Int), p)) := by show _ = _; rw [hx, hmi]
   clear hp hm hmi hx
   gi_wp2
   refine hR.mono ?_
   rintro e W3 (⟨rfl, hJ3, hk3⟩ | ⟨rfl, hJx3⟩)
   ·
    gi_wp2
    go_roundw
    case rel => exact ⟨k + 1, by omega, by have := Hk.out; go_num, by rw [backL_succ, Hx.out]; exact hJ3, hnx.trans hk3⟩
    case measure => simp [intOf]
   ·
    gi_wp2
    refine bodyPost_ret (results_none rfl _ _ _) rfl ?_
    exact ⟨⟨_, rfl⟩, .inr ⟨_, ⟨k + 1, by omega, by rw [backL_succ, Hx.out]⟩, hJx3⟩⟩
  ·
   obtain rfl : k = ps.length := by omega
   gi_wp2
   go_end0
   exact ⟨⟨_, rfl⟩, .inl ⟨_, rfl, hJs⟩⟩
set_option maxHeartbeats 1000000 in
theorem back_in (F : Fence) (n : Nat) (h5 : F.fn 123) (hro : F.round = none) (a : Option Addr) (len cap : Nat) (w : World) :
  CallsIn F n Tryz.prog 123 #[.slice a len cap] w fun e w' => e = .returned (.func (.func 155) #[] #[.pointer (some ⟨w.heap.size, 0, none⟩)]) ∧ w' = w.alloc (.cells #[.slice a len cap] 23) := by
 refine callsIn_of_wp Tryz.func123 rfl h5 ?_ hro
 simp only [Tryz.ntmps123, List.size_toArray, List.length_cons, List.length_nil, Nat.reduceAdd, Nat.reduceSub, Array.replicate_succ, Array.replicate_zero, List.push_toArray, List.append_toArray, List.nil_append, List.cons_append]
 gi_wp2
 go_ret
 exact ⟨rfl, rfl⟩
theorem back_stops (F : Fence) (n : Nat) (h7 : F.fn 155) (hro : F.round = none) (hn : 1 ≤ n) (Bs c : Nat) (a : Option Addr) (ps : List (Int × ByteArray)) (hl : ps.length ≤ 2048) (w : World) (hB : Bs < w.heap.size)
  (hBs : w.cell? ⟨Bs, 0, none⟩ = some (.slice a ps.length c)) (hP : IsP w a c ps) :
  SeqStopsK F n Tryz.prog 155 #[.pointer (some ⟨Bs, 0, none⟩)] backV (Below w.heap.size) (fun ys => ys = backL ps ps.length) (fun pre => ∃ k, k ≤ ps.length ∧ pre = backL ps k) ps.length w :=
 fun l J Jx W hW _ _ hY h0 => back1_in F n h7 hro hn l Bs c a ps hl w hB hBs hP J Jx hY W hW h0
end Go.Proofs.YtaobfgplheoefaaGreat
namespace Go.Proofs.YtaobfgplheoefaaGreat
open Go.RowKit Plain
set_option linter.unusedVariables false
set_option maxRecDepth 20000
def RowS (w : World) (g cap : Nat) (bs : List ByteArray) : Prop :=
 ∃ cur : Array Value, w.heap[g]? = some (.cells cur 9 (0, 0)) ∧ cur.toList.take bs.length = bs.map Value.string ∧ bs.length ≤ cap ∧ cap ≤ maxLen ∧ cur.size = cap
theorem RowS.lt {w : World} {g cap : Nat} {bs : List ByteArray} (h : RowS w g cap bs) : g < w.heap.size := by
 obtain ⟨cur, hg, _⟩ := h
 exact (Array.getElem?_eq_some_iff.1 hg).1
theorem RowS.below {w w' : World} {g cap : Nat} {bs : List ByteArray} (h : RowS w g cap bs) (hb : Below w.heap.size w w') : RowS w' g cap bs := by
 have hl := h.lt
 obtain ⟨cur, hg, hr⟩ := h
 exact ⟨cur, by rw [hb.block g hl]; exact hg, hr⟩
theorem RowS.cell {w : World} {g cap : Nat} {bs : List ByteArray} (h : RowS w g cap bs) {j : Nat} {x : ByteArray} (hx : bs[j]? = some x) : w.cell? ⟨g, j, none⟩ = some (.string x) ∧ w.frozen? ⟨g, j, none⟩ = false := by
 obtain ⟨cur, hg, ht, hl, _, hs⟩ := h
 have hj := (List.getElem?_eq_some_iff.1 hx).1
 have hc : cur[j]? = some (.string x) := by
  rw [← Array.getElem?_toList]
  have : (cur.toList.take bs.length)[j]? = some (.string x) := by rw [ht, List.getElem?_map, hx]; rfl
  rwa [List.getElem?_take_of_lt hj] at this
 exact ⟨by rw [Joins.cell_of_block hg]; exact hc, Joins.unfrozen_of_block hg j⟩
theorem RowS.set {w : World} {g cap : Nat} {bs : List ByteArray} (h : RowS w g cap bs) {j : Nat} (hj : j < bs.length) (x : ByteArray) : RowS (w.setCell ⟨g, j, none⟩ (.string x)) g cap (bs.set j x) := by
 obtain ⟨cur, hg, ht, hl, hm, hs⟩ := h
 refine ⟨_, Joins.block_setCell hg _, ?_, by rw [List.length_set]; exact hl, hm, by rw [Array.size_setIfInBounds]; exact hs⟩
 rw [List.length_set, Array.toList_setIfInBounds, List.take_set, ht, List.map_set]
theorem RowS.isS {w : World} {g cap : Nat} {bs : List ByteArray} (h : RowS w g cap bs) (hz : ∀ x ∈ bs, x.size ≤ maxLen) : IsS w (some ⟨g, 0, none⟩) cap bs := by
 have hl := h.lt
 have hc := h
 obtain ⟨cur, hg, ht, h1, h2, hs⟩ := h
 exact ⟨h1, h2, fun j x hx => ⟨g, 0, rfl, hl, by rw [Nat.zero_add]; exact (hc.cell hx).1, hz x (List.mem_of_getElem? hx)⟩⟩
theorem RowS.setOther {w : World} {g cap h i : Nat} {bs : List ByteArray} {v : Value} (hr : RowS w g cap bs) (hn : g ≠ h) : RowS (w.setCell ⟨h, i, none⟩ v) g cap bs := by
 obtain ⟨cur, hg, hr⟩ := hr
 exact ⟨cur, by rw [Below.heap_setCell _ _ _ _ hn]; exact hg, hr⟩
theorem frozen_alloc {w : World} {b o : Nat} (hl : b < w.heap.size) (h : w.frozen? ⟨b, o, none⟩ = false) : ∀ x, (w.alloc x).frozen? ⟨b, o, none⟩ = false := fun x =>
 (Below.frozen ((Below.refl w.heap.size w).alloc (Nat.le_refl _) x) (p := ⟨b, o, none⟩) hl).trans h
theorem frozen_new (w : World) (C : Array Value) (t : TypeId) (n j : Nat) (hn : n = w.heap.size) : (w.alloc (.cells C t)).frozen? ⟨n, j, none⟩ = false := by
 subst hn
 exact (World.frozen?_alloc_mark w C t 0 0 j).trans (by simp)
theorem frozen_below {w w' : World} {b o : Nat} (hb : Below w.heap.size w w') (hl : b < w.heap.size) (h : w.frozen? ⟨b, o, none⟩ = false) : w'.frozen? ⟨b, o, none⟩ = false := (hb.frozen (p := ⟨b, o, none⟩) hl).trans h
end Go.Proofs.YtaobfgplheoefaaGreat
namespace Go.Proofs.YtaobfgplheoefaaGreat
open Go.RowKit Go.Shelf Plain
set_option linter.unusedVariables false
attribute [local go_sem] Oper.semAt_some
def readS (bs : List ByteArray) (ps : List (Int × ByteArray)) (k : Int) : ByteArray := if blkE bs ps k = 0 then tellsS bs ps k.toNat else ByteArray.empty
theorem readS_bad {bs : List ByteArray} {ps : List (Int × ByteArray)} {k : Int} (h : blkE bs ps k ≠ 0) : readS bs ps k = ByteArray.empty := if_neg h
theorem blkE_zero {bs : List ByteArray} {ps : List (Int × ByteArray)} {k : Int} (h : blkE bs ps k = 0) : rightD bs ps = true ∧ 0 ≤ k ∧ k < bs.length := by
 unfold blkE at h
 split at h
 ·
  rename_i hr
  split at h
  ·
   rename_i hk
   rw [Bool.and_eq_true, decide_eq_true_eq, decide_eq_true_eq] at hk
   exact ⟨hr, hk⟩
  ·
   cases h
 ·
  cases h
theorem tellOn_none (k : Int) (s : ByteArray) (ps : List (Int × ByteArray)) (h : ∀ p ∈ ps, p.1 ≠ k) : tellOn k s ps = s := by
 induction ps generalizing s with
 | nil => rfl
 | cons p ps ih =>
  show tellOn k (if p.1 = k then p.2 else s) ps = s
  rw [if_neg (h p List.mem_cons_self)]
  exact ih s fun q hq => h q (List.mem_cons_of_mem p hq)
theorem tell_back {k : Int} (s : ByteArray) {ps : List (Int × ByteArray)} {m : Nat} (hm : m ≤ ps.length) (h : ∀ x ∈ backL ps m, x.2.1 ≠ k) : tellOn k s ps = tellOn k s (ps.take (ps.length - m)) := by
 conv => lhs; rw [← List.take_append_drop (ps.length - m) ps]
 rw [tellOn_append]
 refine tellOn_none k _ _ fun p hp => ?_
 obtain ⟨i, hi⟩ := List.mem_iff_getElem?.1 hp
 rw [List.getElem?_drop] at hi
 have hlt := (List.getElem?_eq_some_iff.1 hi).1
 have := h (backAt ps (m - 1 - i)) (by unfold backL; exact List.mem_map.2 ⟨m - 1 - i, List.mem_range.2 (by omega), rfl⟩)
 unfold backAt at this
 rw [show ps.length - 1 - (m - 1 - i) = ps.length - m + i by omega, hi] at this
 exact this
theorem tell_all {k : Int} (s : ByteArray) {ps : List (Int × ByteArray)} (h : ∀ x ∈ backL ps ps.length, x.2.1 ≠ k) : tellOn k s ps = s := by
 rw [tell_back s (Nat.le_refl _) h, Nat.sub_self]; rfl
theorem tell_last {k : Int} (s : ByteArray) {ps : List (Int × ByteArray)} {m : Nat} (hm : m ≤ ps.length) {ini : List (Int × (Int × ByteArray))} {last : Int × (Int × ByteArray)} (e : backL ps m = ini ++ [last]) (h : ∀ x ∈ ini, x.2.1 ≠ k) (hl : last.2.1 = k) : tellOn k s ps = last.2.2 := by
 obtain ⟨i, rfl⟩ : ∃ i, m = i + 1 := by
  cases m with
  | zero => simp [backL] at e
  | succ i => exact ⟨i, rfl⟩
 rw [backL_succ] at e
 obtain ⟨rfl, e2⟩ := List.append_inj' e rfl
 obtain rfl : backAt ps i = last := by simpa using e2
 rw [tell_back s (m := i) (by omega) h, show ps.length - i = (ps.length - 1 - i) + 1 by omega, List.take_add_one]
 unfold backAt at hl ⊢
 obtain ⟨p, hp⟩ : ∃ p, ps[ps.length - 1 - i]? = some p := ⟨_, List.getElem?_eq_getElem (by omega)⟩
 rw [hp] at hl ⊢
 rw [tellOn_append]
 show (if p.1 = k then p.2 else _) = p.2
 exact if_pos hl
theorem read_boxes {w W : World} {v0 v1 v2 v3 v4 : Value} {t0 t1 t2 t3 : TypeId} (hW : W = (((w.alloc (.cells #[v0, v1] t0)).alloc (.cells #[v2] t1)).alloc (.cells #[v3] t2)).alloc (.cells #[v4] t3)) :
  Below w.heap.size w W ∧ W.heap.size = w.heap.size + 4 ∧ (W.cell? ⟨w.heap.size, 0, none⟩ = some v0 ∧ W.cell? ⟨w.heap.size, 1, none⟩ = some v1) ∧ W.cell? ⟨w.heap.size + 1, 0, none⟩ = some v2 ∧
   (W.cell? ⟨w.heap.size + 1 + 1, 0, none⟩ = some v3 ∧ W.frozen? ⟨w.heap.size + 1 + 1, 0, none⟩ = false) ∧ W.cell? ⟨w.heap.size + 1 + 1 + 1, 0, none⟩ = some v4 ∧ W.frozen? ⟨w.heap.size + 1 + 1 + 1, 0, none⟩ = false := by
 subst hW
 refine ⟨((((Below.refl _ _).alloc (Nat.le_refl _) _).alloc (by simp) _).alloc (by simp; omega) _).alloc (by simp; omega) _, by simp, ⟨?_, ?_⟩, ?_, ⟨?_, ?_⟩, ?_, ?_⟩
 ·
  exact Lib.cell?_alloc_some _ (Lib.cell?_alloc_some _ (Lib.cell?_alloc_some _ (World.cell?_alloc_at _ _ _ _ rfl)))
 ·
  exact Lib.cell?_alloc_some _ (Lib.cell?_alloc_some _ (Lib.cell?_alloc_some _ (World.cell?_alloc_at _ _ _ _ rfl)))
 ·
  exact Lib.cell?_alloc_some _ (Lib.cell?_alloc_some _ (World.cell?_alloc_at _ _ _ _ (by simp)))
 ·
  exact Lib.cell?_alloc_some _ (World.cell?_alloc_at _ _ _ _ (by simp))
 ·
  exact frozen_alloc (by simp) (frozen_new _ _ _ _ _ (by simp)) _
 ·
  exact World.cell?_alloc_at _ _ _ _ (by simp)
 ·
  exact frozen_new _ _ _ _ _ (by simp)
theorem two_set {X : World} {b0 b1 : Nat} {u0 u1 : Value} (v0 v1 : Value) (hn : b0 ≠ b1) (e0 : X.cell? ⟨b0, 0, none⟩ = some u0) (e1 : X.cell? ⟨b1, 0, none⟩ = some u1) :
  ((X.setCell ⟨b0, 0, none⟩ v0).setCell ⟨b1, 0, none⟩ v1).cell? ⟨b0, 0, none⟩ = some v0 ∧ ((X.setCell ⟨b0, 0, none⟩ v0).setCell ⟨b1, 0, none⟩ v1).cell? ⟨b1, 0, none⟩ = some v1 := by
 refine ⟨?_, ?_⟩
 ·
  rw [World.cell?_setCell_other _ _ _ _ (fun hh => hn (by cases hh; rfl))]
  exact World.cell?_setCell_same _ _ _ e0
 ·
  refine World.cell?_setCell_same _ _ _ (u := u1) ?_
  rw [World.cell?_setCell_other _ _ _ _ (fun hh => hn (by cases hh; rfl))]
  exact e1
set_option maxRecDepth 100000 in
set_option maxHeartbeats 4000000 in
theorem read_any (a a' : Option Addr) (c c' : Nat) (bs : List ByteArray) (ps : List (Int × ByteArray)) (k : Int) (w : World) (hS : IsS w a c bs) (hP : IsP w a' c' ps) :
  Calls Tryz.prog 73 #[.agg #[.slice a bs.length c, .slice a' ps.length c'], .int .i64 k] w fun e w' => e = .returned (.tuple #[.string (readS bs ps k), .int .i64 (blkE bs ps k)]) ∧ Below w.heap.size w w' := by
 obtain ⟨W, hW⟩ : ∃ W, W = (((w.alloc (.cells #[.slice a bs.length c, .slice a' ps.length c'] 25)).alloc (.cells #[.int .i64 k] 3)).alloc (.cells #[.string ⟨#[]⟩] 9)).alloc (.cells #[.int .i64 0] 26) := ⟨_, rfl⟩
 obtain ⟨hB0, hWs, ⟨d0, d1⟩, k0, ⟨e0, f0⟩, e1, f1⟩ := read_boxes hW
 have c1 := checkBlock_any a a' c c' bs ps k W (hS.below hB0) (hP.below hB0)
 have HP : Hid (IsP w a' c' ps) := hP
 have HS : Hid (IsS w a c bs) := hS
 clear hS hP
 refine (callsIn_wide (n := 3)).1 ?_
 by_cases hk : blkE bs ps k = 0
 ·
  have hrs : Hid (readS bs ps k = tellsS bs ps k.toNat) := if_pos hk
  obtain ⟨hr, hk0, hk1⟩ := blkE_zero hk
  obtain ⟨⟨-, -, h3⟩, -, -⟩ := (rightD_iff bs ps).1 hr
  obtain ⟨m, rfl⟩ : ∃ m : Nat, k = m := ⟨k.toNat, by omega⟩
  obtain ⟨b, o, rfl, hlb, hcx, hxs⟩ := HS.out.2.2 m (blk bs m) (by unfold blk; rw [List.getElem?_eq_getElem (by omega)]; rfl)
  have hml : m < bs.length := by omega
  have HT : Hid (∀ s, readS bs ps m = s ↔ tellOn m (blk bs m) ps = s) := by
   intro s; rw [hrs.out]; exact Iff.rfl
  generalize blk bs m = z at hcx hxs HT
  clear hrs
  rw [hk, hW] at c1
  rw [hk]
  have h1 : 1 ≤ 3 := by omega
  refine callsIn_of_wp_marks Tryz.func73 rfl trivial ?_ rfl
  simp only [Tryz.ntmps73, List.size_toArray, List.length_cons, List.length_nil, Nat.reduceAdd, Nat.reduceSub, Array.replicate_succ, Array.replicate_zero, List.push_toArray, List.append_toArray, List.nil_append, List.cons_append]
  gi_wp2_with (first
   | (refine ⟨trivial, ?_⟩; gi_at_call 122; refine (callsIn_wide.2 c1).mono ?_; rintro e w1 ⟨rfl, hb⟩; rw [← hW] at hb; replace d0 := cell_below hb d0; replace d1 := cell_below hb d1; replace k0 := cell_below hb k0; replace e0 := cell_below hb e0; replace e1 := cell_below hb e1; replace f0 := frozen_below hb (by omega) f0; replace f1 := frozen_below hb (by omega) f1; have hB1 := Below.tr hB0 hb; have hs1 := hb.size; clear hb)
   | (refine ⟨trivial, ?_⟩; gi_at_call 123; refine (back_in Fence.wide _ trivial rfl _ _ _ _).mono ?_; rintro e w2 ⟨rfl, rfl⟩))
  have bN : (w1.alloc (.cells #[.slice a' ps.length c'] 23)).cell? ⟨w1.heap.size, 0, none⟩ = some (.slice a' ps.length c') := World.cell?_alloc_at _ _ _ _ rfl
  have hBW : Below w1.heap.size w1 (w1.alloc (.cells #[.slice a' ps.length c'] 23)) := (Below.refl _ _).alloc (Nat.le_refl _) _
  have hsz : (w1.alloc (.cells #[.slice a' ps.length c'] 23)).heap.size = w1.heap.size + 1 := by simp
  obtain ⟨W0, hW0⟩ : ∃ W0, w1.alloc (.cells #[.slice a' ps.length c'] 23) = W0 := ⟨_, rfl⟩
  rw [hW0] at bN hBW hsz ⊢
  have hB2 : Below w.heap.size w W0 := Below.tr hB1 hBW
  replace d0 := cell_below hBW d0; replace d1 := cell_below hBW d1; replace k0 := cell_below hBW k0; replace e0 := cell_below hBW e0; replace e1 := cell_below hBW e1; replace f0 := frozen_below hBW (by omega) f0; replace f1 := frozen_below hBW (by omega) f1
  replace hcx := cell_below hB2 hcx
  clear hW0 hBW hW c1 hk
  refine wpIn_rangeFunc_ownH rfl h1 (gf := 155) (lb := #[.pointer (some ⟨w1.heap.size, 0, none⟩)]) rfl trivial (enters_of Tryz.func155 (by kernel_rfl) rfl)
   (back_stops Fence.wide (3 - 1) trivial rfl (by omega) w1.heap.size c' a' ps h3 W0 (by omega) bN (HP.out.below hB2)) belowK_t (belowK_b (Nat.le_refl _)) (Below.refl _ _) (fun _ => rfl)
   (fun pre X => (∀ x ∈ pre, x.2.1 ≠ (m : Int)) ∧ Below W0.heap.size W0 X)
   (fun cc pre X => (cc = .ret ∧ ∃ ini last, pre = ini ++ [last] ∧ (∀ x ∈ ini, x.2.1 ≠ (m : Int)) ∧ last.2.1 = (m : Int) ∧ X.cell? ⟨w.heap.size + 1 + 1, 0, none⟩ = some (.string last.2.2) ∧ X.cell? ⟨w.heap.size + 1 + 1 + 1, 0, none⟩ = some (.int .i64 0)) ∧ Below w.heap.size w X)
   (OwnFrom.and (ownFrom_pure _ _) (ownFrom_below (Nat.le_refl _) (Nat.le_refl _)))
   (fun cc => OwnFrom.and (Own.from (fun s A B row hs hg hr => by obtain ⟨h1, ini, last, e1, e2, e3, e4, e5⟩ := hs; exact ⟨h1, ini, last, e1, e2, e3, cell_kept e4 hg hr, cell_kept e5 hg hr⟩) _) (ownFrom_below (Nat.le_refl _) hB2.size))
   ⟨by simp, Below.refl _ _⟩
   (fun x a'' X => ∃ Bx, X.cell? ⟨Bx, 0, none⟩ = some (.int .i64 x.2.1) ∧ X.cell? ⟨Bx, 1, none⟩ = some (.string x.2.2) ∧ a'' = { tmps := #[.agg #[.slice (some ⟨b, o, none⟩) bs.length c, .slice a' ps.length c'], .int .i64 m, .pointer (some ⟨w.heap.size, 0, none⟩), .pointer (some ⟨w.heap.size + 1, 0, none⟩), .pointer (some ⟨w.heap.size + 1 + 1, 0, none⟩), .pointer (some ⟨w.heap.size + 1 + 1 + 1, 0, none⟩), .int .i64 0, undef, .pointer (some ⟨Bx, 0, none⟩), .agg #[.slice (some ⟨b, o, none⟩) bs.length c, .slice a' ps.length c'], .int .i64 m, .int .i64 0, .int .i64 0, .bool false, undef, .pointer (some ⟨w.heap.size, 1, none⟩), .slice a' ps.length c', .func (.func 155) #[] #[.pointer (some ⟨w1.heap.size, 0, none⟩)], .int .i64 x.1, .agg #[.int .i64 x.2.1, .string x.2.2], undef, undef, undef, undef, undef, undef, undef, undef, undef, undef, undef], defers := [] })
   (fun x a'' _ X Y row hs hg hr => by obtain ⟨Bx, h1, h2, h3⟩ := hs; exact ⟨Bx, cell_kept h1 hg (fun r e => (hr r e).2), cell_kept h2 hg (fun r e => (hr r e).2), h3⟩)
   ?assign ?body ?done ?stop
  case assign =>
   rintro l pre x X K ⟨hp, hX⟩ hK
   dsimp only [backV]
   gi_wp2
   exact hK _ _ ((KeepsOthers.alloc _ _).from _) ((Below.refl _ X).alloc hX.size _) ⟨hp, hX.alloc hX.size _⟩ ⟨X.heap.size, World.cell?_alloc_at _ _ _ _ rfl, World.cell?_alloc_at _ _ _ _ rfl, rfl⟩
  case body =>
   rintro l pre x a'' X hl ⟨r, hr⟩ ⟨hp, hX⟩ ⟨Bx, x1, x2, rfl⟩ hlt
   have k0' := cell_below hX k0
   have e0' := cell_below hX e0
   have e1' := cell_below hX e1
   have f0' := frozen_below hX (by omega) f0
   have f1' := frozen_below hX (by omega) f1
   by_cases hxk : x.2.1 = (m : Int)
   ·
    gi_wp2
    obtain ⟨z0, z1⟩ := two_set (.string x.2.2) (.int .i64 0) (by omega) e0' e1'
    refine ⟨(KeepsFrom.trans ((KeepsOthers.setCell _ _ _).from _) ((KeepsOthers.setCell _ _ _).from _)), ⟨rfl, pre, x, rfl, hp, hxk, z0, z1⟩, ?_⟩
    exact ((hB2.trans (hX.mono hB2.size)).setCell (p := ⟨w.heap.size + 1 + 1, 0, none⟩) (by show _ ≤ w.heap.size + 1 + 1; omega) _).setCell (p := ⟨w.heap.size + 1 + 1 + 1, 0, none⟩) (by show _ ≤ w.heap.size + 1 + 1 + 1; omega) _
   ·
    gi_wp2
    exact ⟨KeepsFrom.refl _ _, Below.refl _ _, fun y hy => (List.mem_append.1 hy).elim (hp y) (fun e => by simp at e; subst e; exact hxk), hX⟩
  case done =>
   rintro D ys X hD rfl ⟨hp, hX⟩ hK
   replace d0 := cell_below hX d0
   replace hcx := cell_below hX hcx
   have k0' := cell_below hX k0
   have e0' := cell_below hX e0
   have e1' := cell_below hX e1
   have f0' := frozen_below hX (by omega) f0
   have f1' := frozen_below hX (by omega) f1
   gi_wp2
   have hK' := (KeepsOthers.setCell (X.setCell ⟨w.heap.size + 1 + 1, 0, none⟩ (.string z)) ⟨w.heap.size + 1 + 1 + 1, 0, none⟩ (.int .i64 0)).same D _ ((KeepsOthers.setCell X ⟨w.heap.size + 1 + 1, 0, none⟩ (.string z)).same D _ hK rfl) rfl
   refine ⟨by simp, .inl ⟨_, _, rfl, run_takeDeferred hK', ?_⟩⟩
   obtain ⟨z0, z1⟩ := two_set (.string z) (.int .i64 0) (by omega) e0' e1'
   have z0' := cell_kept z0 (grownBy_putObj' _ D (.deferred none)) (fun r e => by cases e; exact ⟨_, hK', rfl⟩)
   have z1' := cell_kept z1 (grownBy_putObj' _ D (.deferred none)) (fun r e => by cases e; exact ⟨_, hK', rfl⟩)
   refine ⟨.tuple #[.string z, .int .i64 0], ?_, by rw [(HT.out z).2 (tell_all z hp)], ?_⟩
   ·
    simp [results, Tryz.results73, go_sem, z0', z1']
   ·
    exact (((hB2.trans (hX.mono hB2.size)).setCell (p := ⟨w.heap.size + 1 + 1, 0, none⟩) (by show _ ≤ w.heap.size + 1 + 1; omega) _).setCell (p := ⟨w.heap.size + 1 + 1 + 1, 0, none⟩) (by show _ ≤ w.heap.size + 1 + 1 + 1; omega) _).trans (belowK_b (w := w) (Nat.le_refl _) _ D _ _ (by omega) hK' rfl rfl)
  case stop =>
   rintro D cc pre X hD ⟨i, hi, rfl⟩ ⟨⟨rfl, ini, last, y1, y2, y3, y4, y5⟩, hX⟩ hK
   gi_wp2
   refine ⟨by simp, .inl ⟨_, _, rfl, run_takeDeferred hK, ?_⟩⟩
   have z0' := cell_kept y4 (grownBy_putObj' _ D (.deferred none)) (fun r e => by cases e; exact ⟨_, hK, rfl⟩)
   have z1' := cell_kept y5 (grownBy_putObj' _ D (.deferred none)) (fun r e => by cases e; exact ⟨_, hK, rfl⟩)
   refine ⟨.tuple #[.string last.2.2, .int .i64 0], ?_, by rw [(HT.out last.2.2).2 (tell_last z hi y1 y2 y3)], ?_⟩
   ·
    simp [results, Tryz.results73, go_sem, z0', z1']
   ·
    exact hX.trans (belowK_b (w := w) (Nat.le_refl _) _ D _ _ (by omega) hK rfl rfl)
 ·
  rw [readS_bad hk]
  rw [hW] at c1
  generalize blkE bs ps k = q at hk c1 ⊢
  refine callsIn_of_wp_marks Tryz.func73 rfl trivial ?_ rfl
  simp only [Tryz.ntmps73, List.size_toArray, List.length_cons, List.length_nil, Nat.reduceAdd, Nat.reduceSub, Array.replicate_succ, Array.replicate_zero, List.push_toArray, List.append_toArray, List.nil_append, List.cons_append]
  gi_wp2_with (refine ⟨trivial, ?_⟩; gi_at_call 122; refine (callsIn_wide.2 c1).mono ?_; rintro e w1 ⟨rfl, hb⟩; rw [← hW] at hb; replace e0 := cell_below hb e0; replace e1 := cell_below hb e1; replace f0 := frozen_below hb (by omega) f0; replace f1 := frozen_below hb (by omega) f1; have hB1 := Below.tr hB0 hb; clear hb)
  obtain ⟨z0, z1⟩ := two_set (.string ⟨#[]⟩) (.int .i64 q) (by omega) e0 e1
  refine ⟨.tuple #[.string ⟨#[]⟩, .int .i64 q], ?_, rfl, ?_⟩
  ·
   simp [results, Tryz.results73, go_sem, z0, z1]
  ·
   exact (hB1.setCell (p := ⟨w.heap.size + 1 + 1, 0, none⟩) (by show _ ≤ w.heap.size + 1 + 1; omega) _).setCell (p := ⟨w.heap.size + 1 + 1 + 1, 0, none⟩) (by show _ ≤ w.heap.size + 1 + 1 + 1; omega) _
end Go.Proofs.YtaobfgplheoefaaGreat
namespace Go.Proofs.YtaobfgplheoefaaGreat.Plain
open Go.RowKit
set_option linter.unusedVariables false
abbrev NodeS := Bool × List ByteArray × List ByteArray × List Int
structure TreeS where
 pairs : List (ByteArray × ByteArray)
 blocks : List Int
 height : Int
 bad : Bool
def TreeS.none : TreeS := ⟨[], [], 0, false⟩
def TreeS.spoil (t : TreeS) : TreeS := ⟨t.pairs, t.blocks, t.height, true⟩
def withinS (key low high : ByteArray) : Bool := !ltB key low && (decide (high.size = 0) || ltB key high)
def kidFrom (low : ByteArray) (ks : List ByteArray) (i : Nat) : ByteArray := if i = 0 then low else ks.getD (i - 1) ⟨#[]⟩
def kidTo (high : ByteArray) (ks : List ByteArray) (i : Nat) : ByteArray := if i < ks.length then ks.getD i ⟨#[]⟩ else high
def kidsT (low high : ByteArray) (ks : List ByteArray) (cs : List Int) : List (Int × ByteArray × ByteArray) := cs.mapIdx fun i b => (b, kidFrom low ks i, kidTo high ks i)
def TreeS.node (t : TreeS) (block : Int) (low high : ByteArray) (n : NodeS) : TreeS :=
 ⟨if n.1 then t.pairs ++ n.2.1.zip n.2.2.1 else t.pairs, t.blocks ++ [block], t.height, n.2.1.any fun k => !withinS k low high⟩
def TreeS.leaf (t : TreeS) (deep : Int) : TreeS := ⟨t.pairs, t.blocks, deep, t.bad || (decide (t.height ≠ 0) && decide (t.height ≠ deep))⟩
def belowS (H : Int → Bool → Option NodeS) : Nat → TreeS → Int → ByteArray → ByteArray → TreeS
 | 0, t, _, _, _ => t.spoil
 | k + 1, t, block, low, high =>
  if t.blocks.contains block || t.bad then t.spoil
  else match H block (decide (k = 7)) with
   | Option.none => t.spoil
   | some n =>
    if n.1 && n.2.1.isEmpty then t.spoil
    else if n.1 then (t.node block low high n).leaf (8 - (k : Int))
    else (kidsT low high n.2.1 n.2.2.2).foldl (fun t x => if t.bad then t else belowS H k t x.1 x.2.1 x.2.2) (t.node block low high n)
theorem kidsT_length (low high : ByteArray) (ks : List ByteArray) (cs : List Int) : (kidsT low high ks cs).length = cs.length := by simp [kidsT]
theorem kidsT_get {low high : ByteArray} {ks : List ByteArray} {cs : List Int} {i : Nat} {b : Int} (h : cs[i]? = some b) : (kidsT low high ks cs)[i]? = some (b, kidFrom low ks i, kidTo high ks i) := by
 simp [kidsT, h]
def TreeS.more (t t' : TreeS) (m : Nat) : Prop := t'.blocks.length ≤ t.blocks.length + m ∧ t'.pairs.length ≤ t.pairs.length + 9 * m
theorem any_within {ks : List ByteArray} {low high : ByteArray} (h : (ks.any fun k => !withinS k low high) = false) : ∀ x ∈ ks, withinS x low high = true := by
 intro x hx
 have := List.any_eq_false.1 h x hx
 simpa using this
theorem within_low {x low high : ByteArray} (h : withinS x low high = true) : ltB x low = false := by
 unfold withinS at h
 cases hh : ltB x low with
 | false => rfl
 | true => rw [hh] at h; simp at h
theorem within_high {x low high : ByteArray} (h : withinS x low high = true) : high.size = 0 ∨ ltB x high = true := by
 unfold withinS at h
 simp only [Bool.and_eq_true, Bool.or_eq_true, decide_eq_true_eq] at h
 exact h.2
theorem within_of {x low high : ByteArray} (h1 : ltB x low = false) (h2 : high.size = 0 ∨ ltB x high = true) : withinS x low high = true := by
 unfold withinS
 simp only [Bool.and_eq_true, Bool.or_eq_true, decide_eq_true_eq]
 exact ⟨by rw [h1]; rfl, h2⟩
theorem not_below {x y low : ByteArray} (h1 : ltB x y = false) (h2 : ltB y low = false) : ltB x low = false := by
 cases hh : ltB x low with
 | false => rfl
 | true => rw [ltB_le hh h2] at h1; cases h1
def keyIn (x : ByteArray) : Prop := 1 ≤ x.size ∧ x.size ≤ 32
def Holding (H : Int → Bool → Option NodeS) : Prop :=
 ∀ b r (n : NodeS), H b r = some n → risingK n.2.1 = true ∧ (∀ x ∈ n.2.1, keyIn x) ∧ (n.1 = true → n.2.2.1.length = n.2.1.length) ∧ (n.1 = false → n.2.2.2.length = n.2.1.length + 1)
def withinK (ks : List ByteArray) (low high : ByteArray) : Bool :=
 !ks.isEmpty && (!ltB (ks.getD 0 ⟨#[]⟩) low && (decide (high.size = 0) || ltB (ks.getD (ks.length - 1) ⟨#[]⟩) high))
theorem withinK_iff {ks : List ByteArray} {low high : ByteArray} (hr : risingK ks = true) : withinK ks low high = true ↔ ks ≠ [] ∧ ∀ x ∈ ks, withinS x low high = true := by
 have hR := rising_iff.1 hr
 cases ks with
 | nil => simp [withinK]
 | cons k ks =>
  have h0 : (k :: ks)[0]? = some k := rfl
  have hlt : (k :: ks).length - 1 < (k :: ks).length := by simp
  obtain ⟨z, hz⟩ : ∃ z, (k :: ks)[(k :: ks).length - 1]? = some z := ⟨_, List.getElem?_eq_getElem hlt⟩
  have hd : (k :: ks).getD ((k :: ks).length - 1) ⟨#[]⟩ = z := by rw [List.getD_eq_getElem?_getD, hz]; rfl
  unfold withinK
  rw [hd]
  simp only [List.isEmpty_cons, Bool.not_false, Bool.true_and, List.getD_cons_zero, Bool.and_eq_true, Bool.or_eq_true, decide_eq_true_eq, ne_eq, reduceCtorEq, not_false_eq_true, true_and, Bool.not_eq_true']
  constructor
  ·
   rintro ⟨h1, h2⟩ x hx
   obtain ⟨i, hi⟩ := List.mem_iff_getElem?.1 hx
   have hil := (List.getElem?_eq_some_iff.1 hi).1
   refine within_of ?_ ?_
   ·
    by_cases e : i = 0
    ·
     subst e; rw [h0] at hi; cases hi; exact h1
    ·
     exact not_below (ltB_asymm (hR 0 i _ _ (by omega) h0 hi)) h1
   ·
    rcases h2 with h2 | h2
    ·
     exact .inl h2
    ·
     by_cases e : i = (k :: ks).length - 1
     ·
      subst e; rw [hz] at hi; cases hi; exact .inr h2
     ·
      exact .inr (ltB_trans (hR i _ _ _ (by omega) hi hz) h2)
  ·
   intro h
   have h1 := h k (by simp)
   have h2 := h z (List.mem_of_getElem? hz)
   exact ⟨within_low h1, within_high h2⟩
def Keyed (H : Int → Bool → Option NodeS) : Prop := ∀ b r (n : NodeS), H b r = some n → n.1 = false → n.2.1 ≠ []
structure ClimbS where
 held : List Bool
 pairs : Nat
 height : Int
 blocks : Nat
def holdL : List Bool → List Int → Bool × List Bool
 | l, [] => (true, l)
 | l, b :: bs => if 0 ≤ b ∧ b < l.length ∧ atB l b.toNat = false then holdL (l.set b.toNat true) bs else (false, l)
def leafC (m : Nat) (d : Int) (c : ClimbS) : Int × ClimbS :=
 if c.height = 0 ∨ c.height = d then (0, ⟨c.held, c.pairs + m, d, c.blocks⟩) else (81, c)
def ClimbS.take (c : ClimbS) (block : Int) : ClimbS := ⟨c.held.set block.toNat true, c.pairs, c.height, c.blocks + 1⟩
def climbS (H : Int → Bool → Option NodeS) : Nat → ClimbS → Int → ByteArray → ByteArray → Int × ClimbS
 | 0, c, _, _, _ => (81, c)
 | k + 1, c, block, low, high => match H block (decide (k = 7)) with
  | none => (81, c)
  | some n => if withinK n.2.1 low high = true ∧ 0 ≤ block ∧ block < c.held.length ∧ atB c.held block.toNat = false then
    (if n.1 = true then leafC n.2.1.length (8 - (k : Int)) (c.take block)
     else (kidsT low high n.2.1 n.2.2.2).foldl (fun (r : Int × ClimbS) (x : Int × ByteArray × ByteArray) => if r.1 = 0 then climbS H k r.2 x.1 x.2.1 x.2.2 else r) (0, c.take block))
   else (81, c)
theorem atB_put (l : List Bool) (p i : Nat) (x : Bool) : atB (l.set p x) i = if p = i ∧ p < l.length then x else atB l i := by
 unfold atB
 rw [List.getElem?_set]
 by_cases e : p = i
 ·
  subst e
  by_cases hl : p < l.length
  ·
   rw [if_pos rfl, if_pos hl, if_pos ⟨rfl, hl⟩]; rfl
  ·
   rw [if_pos rfl, if_neg hl, if_neg (fun h => hl h.2), List.getElem?_eq_none (by omega)]
 ·
  rw [if_neg e, if_neg (fun h => e h.1)]
def HeldBy (n : Nat) (held : List Bool) (l : List Int) : Prop := held.length = n ∧ ∀ i, i < n → atB held i = (decide (i < 10) || l.contains (i : Int))
theorem HeldBy.free {n : Nat} {held : List Bool} {l : List Int} (h : HeldBy n held l) {b : Int} (h1 : 10 ≤ b) (h2 : b < n) : atB held b.toNat = l.contains b := by
 rw [h.2 b.toNat (by omega), decide_eq_false (by omega), Bool.false_or, Int.toNat_of_nonneg (by omega)]
theorem HeldBy.take {n : Nat} {held : List Bool} {l l' : List Int} (h : HeldBy n held l) {b : Int} (h1 : 10 ≤ b) (h2 : b < n) (hl : ∀ x, l'.contains x = (l.contains x || decide (x = b))) : HeldBy n (held.set b.toNat true) l' := by
 refine ⟨by rw [List.length_set]; exact h.1, fun i hi => ?_⟩
 rw [atB_put, hl]
 by_cases e : b.toNat = i
 ·
  rw [if_pos ⟨e, by rw [h.1]; omega⟩, decide_eq_true (show (i : Int) = b by omega)]
  simp
 ·
  rw [if_neg (fun hh => e hh.1), h.2 i hi, decide_eq_false (show ¬ (i : Int) = b by omega), Bool.or_false]
structure Agree (n : Nat) (c : ClimbS) (t : TreeS) : Prop where
 held : HeldBy n c.held t.blocks
 pairs : c.pairs = t.pairs.length
 height : c.height = t.height
 blocks : c.blocks = t.blocks.length
theorem contains_snoc (l : List Int) (b x : Int) : (l ++ [b]).contains x = (l.contains x || decide (x = b)) := by
 simp
theorem climb_below {H : Int → Bool → Option NodeS} (hH : Holding H) (hI : Keyed H) {N : Nat} (hR : ∀ b r (n : NodeS), H b r = some n → 10 ≤ b ∧ b < N) : ∀ (k : Nat) (c : ClimbS) (t : TreeS) (block : Int) (low high : ByteArray), Agree N c t → t.bad = false →
  ((belowS H k t block low high).bad = false → (climbS H k c block low high).1 = 0 ∧ Agree N (climbS H k c block low high).2 (belowS H k t block low high)) ∧ ((belowS H k t block low high).bad = true → (climbS H k c block low high).1 = 81)
 | 0, c, t, block, low, high, ha, ht => ⟨fun h => (by cases h), fun _ => rfl⟩
 | k + 1, c, t, block, low, high, ha, ht => by
  have fold : ∀ (l : List (Int × ByteArray × ByteArray)) (c0 : ClimbS) (t0 : TreeS), Agree N c0 t0 → t0.bad = false →
    ((l.foldl (fun t x => if t.bad then t else belowS H k t x.1 x.2.1 x.2.2) t0).bad = false → (l.foldl (fun (r : Int × ClimbS) (x : Int × ByteArray × ByteArray) => if r.1 = 0 then climbS H k r.2 x.1 x.2.1 x.2.2 else r) (0, c0)).1 = 0 ∧ Agree N (l.foldl (fun (r : Int × ClimbS) (x : Int × ByteArray × ByteArray) => if r.1 = 0 then climbS H k r.2 x.1 x.2.1 x.2.2 else r) (0, c0)).2 (l.foldl (fun t x => if t.bad then t else belowS H k t x.1 x.2.1 x.2.2) t0)) ∧
    ((l.foldl (fun t x => if t.bad then t else belowS H k t x.1 x.2.1 x.2.2) t0).bad = true → (l.foldl (fun (r : Int × ClimbS) (x : Int × ByteArray × ByteArray) => if r.1 = 0 then climbS H k r.2 x.1 x.2.1 x.2.2 else r) (0, c0)).1 = 81) := by
   intro l
   induction l with
   | nil => exact fun c0 t0 h0 h1 => ⟨fun _ => ⟨rfl, h0⟩, fun h => by rw [List.foldl_nil, h1] at h; cases h⟩
   | cons x l ih =>
    intro c0 t0 h0 h1
    rw [List.foldl_cons, List.foldl_cons, if_neg (by rw [h1]; decide), if_pos rfl]
    obtain ⟨a1, a2⟩ := climb_below hH hI hR k c0 t0 x.1 x.2.1 x.2.2 h0 h1
    cases hb : (belowS H k t0 x.1 x.2.1 x.2.2).bad with
    | false =>
     obtain ⟨a3, a4⟩ := a1 hb
     have := ih _ _ a4 hb
     rw [show climbS H k c0 x.1 x.2.1 x.2.2 = (0, (climbS H k c0 x.1 x.2.1 x.2.2).2) from Prod.ext a3 rfl]
     exact this
    | true =>
     have a3 := a2 hb
     have e1 : l.foldl (fun t x => if t.bad then t else belowS H k t x.1 x.2.1 x.2.2) (belowS H k t0 x.1 x.2.1 x.2.2) = belowS H k t0 x.1 x.2.1 x.2.2 := by
      clear ih a1 a2 a3
      induction l with
      | nil => rfl
      | cons y l ih => rw [List.foldl_cons, if_pos hb]; exact ih
     have e2 : l.foldl (fun (r : Int × ClimbS) (x : Int × ByteArray × ByteArray) => if r.1 = 0 then climbS H k r.2 x.1 x.2.1 x.2.2 else r) (climbS H k c0 x.1 x.2.1 x.2.2) = climbS H k c0 x.1 x.2.1 x.2.2 := by
      clear ih a1 a2 e1
      induction l with
      | nil => rfl
      | cons y l ih => rw [List.foldl_cons, if_neg (by rw [a3]; decide)]; exact ih
     rw [e1, e2]
     exact ⟨fun h => (by rw [hb] at h; cases h), fun _ => a3⟩
  rw [belowS, climbS]
  cases hn : H block (decide (k = 7)) with
  | none =>
   refine ⟨fun h => ?_, fun _ => rfl⟩
   split at h <;> cases h
  | some nd =>
   obtain ⟨l, ks, vs, cs⟩ := nd
   obtain ⟨hb1, hb2⟩ := hR _ _ _ hn
   obtain ⟨hr, -, hv, -⟩ := hH _ _ _ hn
   replace hr : risingK ks = true := hr
   replace hv : l = true → vs.length = ks.length := hv
   have hfree := ha.held.free hb1 hb2
   have hl : block < c.held.length := by rw [ha.held.1]; exact hb2
   simp only
   rw [ht, Bool.or_false]
   cases hc : t.blocks.contains block with
   | true =>
    rw [hc] at hfree
    rw [if_pos rfl, if_neg (fun h => by rw [hfree] at h; exact absurd h.2.2.2 (by decide))]
    exact ⟨fun h => (by cases h), fun _ => rfl⟩
   | false =>
    rw [hc] at hfree
    rw [if_neg (by decide)]
    have hA : Agree N (c.take block) ⟨t.pairs, t.blocks ++ [block], t.height, false⟩ := ⟨ha.held.take hb1 hb2 (contains_snoc _ _), ha.pairs, ha.height, by show c.blocks + 1 = _; rw [ha.blocks, List.length_append]; rfl⟩
    cases hw : withinK ks low high with
    | true =>
     obtain ⟨hne, hall⟩ := (withinK_iff hr).1 hw
     have hany : (ks.any fun k => !withinS k low high) = false := List.any_eq_false.2 fun x hx => by rw [hall x hx]; decide
     have hem : ks.isEmpty = false := by cases ks with | nil => exact absurd rfl hne | cons _ _ => rfl
     rw [if_neg (show ¬ (l && ks.isEmpty) = true by rw [hem, Bool.and_false]; decide), if_pos (show true = true ∧ 0 ≤ block ∧ block < c.held.length ∧ atB c.held block.toNat = false from ⟨rfl, by omega, hl, hfree⟩)]
     cases l with
     | true =>
      rw [if_pos rfl, if_pos rfl]
      have hlen : (ks.zip vs).length = ks.length := by rw [List.length_zip, hv rfl, Nat.min_self]
      have e0 : (t.node block low high (true, ks, vs, cs)).leaf (8 - (k : Int)) = ⟨t.pairs ++ ks.zip vs, t.blocks ++ [block], 8 - (k : Int), decide (t.height ≠ 0) && decide (t.height ≠ 8 - (k : Int))⟩ := by
       unfold TreeS.leaf TreeS.node
       simp only [if_true, hany, Bool.false_or]
      rw [e0]
      unfold leafC
      have hh : (c.take block).height = t.height := ha.height
      rw [hh]
      by_cases hg : t.height = 0 ∨ t.height = 8 - (k : Int)
      ·
       rw [if_pos hg]
       refine ⟨fun _ => ⟨rfl, hA.held, ?_, rfl, hA.blocks⟩, fun h => ?_⟩
       ·
        show c.pairs + ks.length = _
        rw [List.length_append, hlen, ha.pairs]
       ·
        exfalso
        simp only [Bool.and_eq_true, decide_eq_true_eq] at h
        rcases hg with e | e
        ·
         exact h.1 e
        ·
         exact h.2 e
      ·
       rw [if_neg hg]
       refine ⟨fun h => ?_, fun _ => rfl⟩
       exfalso
       simp only [Bool.and_eq_false_iff, decide_eq_false_iff_not, Decidable.not_not] at h
       exact hg h
     | false =>
      rw [if_neg (by decide), if_neg (by decide)]
      have e0 : t.node block low high (false, ks, vs, cs) = ⟨t.pairs, t.blocks ++ [block], t.height, false⟩ := by
       unfold TreeS.node
       simp only [Bool.false_eq_true, if_false, hany]
      rw [e0]
      exact fold _ _ _ hA rfl
    | false =>
     rw [if_neg (show ¬ (false = true ∧ 0 ≤ block ∧ block < c.held.length ∧ atB c.held block.toNat = false) from fun h => by cases h.1)]
     refine ⟨fun h => ?_, fun _ => rfl⟩
     exfalso
     have hno : ¬ (ks ≠ [] ∧ ∀ x ∈ ks, withinS x low high = true) := fun h => by rw [(withinK_iff hr).2 h] at hw; cases hw
     cases l with
     | true =>
      simp only [Bool.true_and] at h
      split at h
      ·
       cases h
      ·
       rename_i hem
       simp only [if_true] at h
       have h2 : ((ks.any fun k => !withinS k low high) || (decide (t.height ≠ 0) && decide (t.height ≠ 8 - (k : Int)))) = false := h
       exact hno ⟨fun e => hem (by rw [e]; rfl), any_within (Bool.or_eq_false_iff.1 h2).1⟩
     | false =>
      simp only [Bool.false_and, Bool.false_eq_true, if_false] at h
      have hb0 : (t.node block low high (false, ks, vs, cs)).bad = false := by
       cases hb : (t.node block low high (false, ks, vs, cs)).bad with
       | false => rfl
       | true =>
        have e1 : ∀ (l : List (Int × ByteArray × ByteArray)), l.foldl (fun t x => if t.bad then t else belowS H k t x.1 x.2.1 x.2.2) (t.node block low high (false, ks, vs, cs)) = t.node block low high (false, ks, vs, cs) := by
         intro l
         induction l with
         | nil => rfl
         | cons y l ih => rw [List.foldl_cons, if_pos hb]; exact ih
        rw [e1] at h
        rw [hb] at h
        cases h
      exact hno ⟨hI _ _ _ hn rfl, any_within hb0⟩
def blocksL (n : Nat) (l : List Int) : List Int := ((List.range n).filter fun (i : Nat) => l.contains (i : Int)).map fun (i : Nat) => (i : Int)
theorem blocksL_mem {n : Nat} {l : List Int} {b : Int} : b ∈ blocksL n l ↔ 0 ≤ b ∧ b < n ∧ b ∈ l := by
 unfold blocksL
 simp only [List.mem_map, List.mem_filter, List.mem_range, List.contains_iff_mem]
 constructor
 ·
  rintro ⟨i, ⟨h1, h2⟩, rfl⟩; exact ⟨by omega, by omega, h2⟩
 ·
  rintro ⟨h1, h2, h3⟩; exact ⟨b.toNat, ⟨by omega, by rw [Int.toNat_of_nonneg h1]; exact h3⟩, by omega⟩
def moreL (n : Nat) : List Int → List Int → Option (List Int)
 | l, [] => some l
 | l, b :: bs => if b < 10 ∨ (n : Int) ≤ b ∨ b ∈ l then none else moreL n (l ++ [b]) bs
def justL (ns : List Bool) (l : List Int) : Bool := (List.range ns.length).all fun (i : Nat) => atB ns i == (decide (i < 10) || l.contains (i : Int))
theorem just_iff {ns : List Bool} {l : List Int} : justL ns l = true ↔ HeldBy ns.length ns l := by
 unfold justL HeldBy
 simp only [List.all_eq_true, List.mem_range, beq_iff_eq]
 exact ⟨fun h => ⟨trivial, h⟩, fun h => h.2⟩
theorem held_ext {n : Nat} {a b : List Bool} {l : List Int} (ha : HeldBy n a l) (hb : HeldBy n b l) : a = b := by
 apply List.ext_getElem (by rw [ha.1, hb.1])
 intro i h1 h2
 have e1 := ha.2 i (by rw [← ha.1]; exact h1)
 have e2 := hb.2 i (by rw [← hb.1]; exact h2)
 rw [atB_some (List.getElem?_eq_getElem h1)] at e1
 rw [atB_some (List.getElem?_eq_getElem h2)] at e2
 rw [e1, e2]
theorem hold_more {n : Nat} : ∀ (more : List Int) (held : List Bool) (l : List Int), 10 ≤ n → HeldBy n held l → ((moreL n l more = none → (holdL held more).1 = false) ∧ ∀ l', moreL n l more = some l' → (holdL held more).1 = true ∧ HeldBy n (holdL held more).2 l')
 | [], held, l, hn, h => ⟨fun e => (by cases e), fun l' e => by cases e; exact ⟨rfl, h⟩⟩
 | b :: bs, held, l, hn, h => by
  rw [moreL, holdL]
  by_cases hc : b < 10 ∨ (n : Int) ≤ b ∨ b ∈ l
  ·
   rw [if_pos hc, if_neg]
   ·
    exact ⟨fun _ => rfl, fun l' e => by cases e⟩
   ·
    rintro ⟨h1, h2, h3⟩
    rw [h.1] at h2
    rw [h.2 b.toNat (by omega)] at h3
    rw [Bool.or_eq_false_iff, decide_eq_false_iff_not, Int.toNat_of_nonneg h1] at h3
    rcases hc with e | e | e
    ·
     omega
    ·
     omega
    ·
     rw [List.contains_iff_mem.2 e] at h3; exact absurd h3.2 (by decide)
  ·
   rw [if_neg hc]
   have h1 : 10 ≤ b := by omega
   have h2 : b < n := by omega
   have h3 : l.contains b = false := by
    cases hh : l.contains b with
    | false => rfl
    | true => exact absurd (.inr (.inr (List.contains_iff_mem.1 hh))) hc
   rw [if_pos ⟨by omega, by rw [h.1]; exact h2, by rw [h.free h1 h2, h3]⟩]
   exact hold_more bs _ _ hn (h.take h1 h2 (contains_snoc _ _))
def checkOK (ns : List Bool) (t : TreeS) (more : List Int) : Bool :=
 match moreL ns.length (blocksL ns.length t.blocks) more with
 | none => false
 | some l => justL ns l
theorem held_blocks {n : Nat} {held : List Bool} {l : List Int} (h : HeldBy n held l) : HeldBy n held (blocksL n l) := by
 refine ⟨h.1, fun i hi => ?_⟩
 rw [h.2 i hi]
 congr 1
 cases hc : l.contains (i : Int) with
 | true => exact (List.contains_iff_mem.2 (blocksL_mem.2 ⟨by omega, by omega, List.contains_iff_mem.1 hc⟩)).symm
 | false =>
  cases hd : (blocksL n l).contains (i : Int) with
  | false => rfl
  | true => rw [List.contains_iff_mem.2 (blocksL_mem.1 (List.contains_iff_mem.1 hd)).2.2] at hc; cases hc
theorem check_held {ns held : List Bool} {t : TreeS} {more : List Int} (h10 : 10 ≤ ns.length) (h : HeldBy ns.length held t.blocks) : checkOK ns t more = ((holdL held more).1 && decide ((holdL held more).2 = ns)) := by
 obtain ⟨a1, a2⟩ := hold_more more held _ h10 (held_blocks h)
 unfold checkOK
 cases hm : moreL ns.length (blocksL ns.length t.blocks) more with
 | none => rw [a1 hm]; rfl
 | some l =>
  obtain ⟨b1, b2⟩ := a2 l hm
  rw [b1, Bool.true_and]
  simp only
  cases hj : justL ns l with
  | true => exact (decide_eq_true (held_ext b2 (just_iff.1 hj))).symm
  | false => exact (decide_eq_false (fun e => by rw [e] at b2; rw [just_iff.2 b2] at hj; cases hj)).symm
def checkE (right : Bool) (ns : List Bool) (t : TreeS) (more : List Int) : Int := if right = true then (if t.bad = false ∧ checkOK ns t more = true then 0 else 81) else 1
def checkP (right : Bool) (ns : List Bool) (t : TreeS) (more : List Int) : Int := if checkE right ns t more = 0 then (t.pairs.length : Int) else 0
def checkH (right : Bool) (ns : List Bool) (t : TreeS) (more : List Int) : Int := if checkE right ns t more = 0 then t.height else 0
def checkB (right : Bool) (ns : List Bool) (t : TreeS) (more : List Int) : Int := if checkE right ns t more = 0 then (t.blocks.length : Int) else 0
end Go.Proofs.YtaobfgplheoefaaGreat.Plain
namespace Go.Proofs.YtaobfgplheoefaaGreat
open Go.RowKit Plain
set_option linter.unusedVariables false
structure Turns (P : Nat → Prop) (w w' : World) : Prop where
 os : w'.os = w.os
 tape : w'.tape = w.tape
 output : w'.output = w.output
 size : w.heap.size ≤ w'.heap.size
 block : ∀ k, k < w.heap.size → ¬ P k → w'.heap[k]? = w.heap[k]?
theorem Turns.refl (P : Nat → Prop) (w : World) : Turns P w w := ⟨rfl, rfl, rfl, Nat.le_refl _, fun _ _ _ => rfl⟩
theorem Turns.trans {P : Nat → Prop} {a b c : World} (h : Turns P a b) (k : Turns P b c) : Turns P a c :=
 ⟨k.os.trans h.os, k.tape.trans h.tape, k.output.trans h.output, Nat.le_trans h.size k.size, fun i hi hp => (k.block i (Nat.lt_of_lt_of_le hi h.size) hp).trans (h.block i hi hp)⟩
theorem Turns.mono {P Q : Nat → Prop} {w w' : World} (h : Turns P w w') (hq : ∀ k, P k → Q k) : Turns Q w w' :=
 ⟨h.os, h.tape, h.output, h.size, fun k hk hp => h.block k hk fun x => hp (hq k x)⟩
theorem Turns.mono' {P Q : Nat → Prop} {w w' : World} (h : Turns P w w') (hq : ∀ k, k < w.heap.size → P k → Q k) : Turns Q w w' :=
 ⟨h.os, h.tape, h.output, h.size, fun k hk hp => h.block k hk fun x => hp (hq k hk x)⟩
theorem Turns.of_below {P : Nat → Prop} {w w' : World} (h : Below w.heap.size w w') : Turns P w w' :=
 ⟨h.os, h.tape, h.output, h.size, fun k hk _ => h.block k hk⟩
theorem Turns.drew {P : Nat → Prop} {a w : World} (h : Turns P a w) : Turns P a w.drew := ⟨h.os, h.tape, h.output, h.size, h.block⟩
theorem Turns.alloc {P : Nat → Prop} {a w : World} (h : Turns P a w) (o : Obj) : Turns P a (w.alloc o) :=
 h.trans (Turns.of_below ((Below.refl _ _).alloc (Nat.le_refl _) o))
theorem Turns.setCell {P : Nat → Prop} {a w : World} (h : Turns P a w) {p : Addr} (hp : P p.block) (u : Value) : Turns P a (w.setCell p u) :=
 h.trans ⟨rfl, rfl, rfl, by simp [World.setCell], fun k hk hn => Below.heap_setCell _ _ _ _ (fun e => hn (e ▸ hp))⟩
theorem Turns.grown {P : Nat → Prop} {a w w' : World} {row : Option Nat} (h : Turns P a w) (hg : w.grownBy w' row) (hr : ∀ k, row = some k → P k) : Turns P a w' :=
 h.trans ⟨hg.os, hg.tape, hg.output, hg.size, fun k hk hn => hg.block k hk fun e => hn (hr k e.symm)⟩
theorem Turns.tr {P : Nat → Prop} {a w w' : World} (h : Turns P a w) (hb : Below w.heap.size w w') : Turns P a w' := h.trans (Turns.of_below hb)
theorem Turns.cell {P : Nat → Prop} {w w' : World} (h : Turns P w w') {p : Addr} {v : Value} (hn : ¬ P p.block) (hc : w.cell? p = some v) : w'.cell? p = some v := by
 rw [World.cell?_of_block (w := w) (h.block p.block (cell_lt hc) hn)]; exact hc
theorem Turns.frozen {P : Nat → Prop} {w w' : World} (h : Turns P w w') {p : Addr} (hl : p.block < w.heap.size) (hn : ¬ P p.block) (hc : w.frozen? p = false) : w'.frozen? p = false := by
 rw [World.frozen?_of_block (w := w) (h.block p.block hl hn)]; exact hc
theorem Below.turns {P : Nat → Prop} {w a b : World} (h : Below w.heap.size w a) (k : Turns P a b) (hP : ∀ i, P i → w.heap.size ≤ i) : Below w.heap.size w b :=
 ⟨k.os.trans h.os, k.tape.trans h.tape, k.output.trans h.output, Nat.le_trans h.size k.size, fun i hi => (k.block i (Nat.lt_of_lt_of_le hi h.size) fun x => by have := hP i x; omega).trans (h.block i hi)⟩
theorem Turns.owns {P : Nat → Prop} {w w' : World} {B : Nat} {e : TypeId} {s : Nat} {v : Value} {n : Nat} {xs : List Value} (h : Turns P w w') (ho : w.ownsRow B e s v n xs) (hn : ∀ g, v.ownBlock = some g → ¬ P g) : w'.ownsRow B e s v n xs := by
 obtain ⟨h1, h2⟩ := ho
 refine ⟨h1, ?_⟩
 rcases h2 with h2 | ⟨g, cap, cur, hv, hg, hh, r⟩
 ·
  exact .inl h2
 ·
  have hl : g < w.heap.size := by
   refine Nat.lt_of_not_le fun hx => ?_
   rw [Array.getElem?_eq_none hx] at hh
   cases hh
  exact .inr ⟨g, cap, cur, hv, hg, by rw [h.block g hl (hn g (by rw [hv]; rfl))]; exact hh, r⟩
def From (base : Nat) (a : Option Addr) : Prop := ∀ x, a = some x → base ≤ x.block
theorem from_nil (base : Nat) : From base none := fun x h => by cases h
theorem From.mono {base base' : Nat} {a : Option Addr} (h : From base a) (hb : base' ≤ base) : From base' a := fun x e => Nat.le_trans hb (h x e)
theorem IsI.turns {P : Nat → Prop} {w w' : World} {a : Option Addr} {c : Nat} {ms : List Int} (h : IsI w a c ms) (t : Turns P w w') (hp : ∀ x, a = some x → ¬ P x.block) : IsI w' a c ms := by
 refine ⟨h.1, h.2.1, fun j x hx => ?_⟩
 obtain ⟨b, o, ha, hlt, hc⟩ := h.2.2 j x hx
 exact ⟨b, o, ha, Nat.lt_of_lt_of_le hlt t.size, t.cell (p := ⟨b, o + j, none⟩) (hp ⟨b, o, none⟩ ha) hc⟩
theorem IsS.turns {P : Nat → Prop} {w w' : World} {a : Option Addr} {c : Nat} {ms : List ByteArray} (h : IsS w a c ms) (t : Turns P w w') (hp : ∀ x, a = Option.some x → ¬ P x.block) : IsS w' a c ms := by
 refine ⟨h.1, h.2.1, fun j x hx => ?_⟩
 obtain ⟨b, o, ha, hlt, hc, hs⟩ := h.2.2 j x hx
 exact ⟨b, o, ha, Nat.lt_of_lt_of_le hlt t.size, t.cell (p := ⟨b, o + j, none⟩) (hp ⟨b, o, none⟩ ha) hc, hs⟩
def Apart (u v : Value) : Prop := ∀ g, u.ownBlock = some g → v.ownBlock ≠ some g
theorem Apart.symm {u v : Value} (h : Apart u v) : Apart v u := fun g h1 h2 => h g h2 h1
theorem apart_nil (v : Value) (c : Nat) : Apart (.slice none 0 c) v := fun g h => by simp [Value.ownBlock] at h
theorem apart_grown {v u : Value} {g n cap H : Nat} (h : Apart v u) (hg : v.ownBlock = some g ∨ g = H) (hu : ∀ k, u.ownBlock = some k → k < H) : Apart (.slice (some ⟨g, 0, none⟩) n cap) u := by
 intro k h1 h2
 simp [Value.ownBlock] at h1
 subst h1
 rcases hg with hg | hg
 ·
  exact h g hg h2
 ·
  have := hu g h2; omega
theorem push_S (W : World) (base : Nat) (v : Value) (n : Nat) (l : List ByteArray) (x : ByteArray) (hown : W.ownsRow base 9 1 v n (l.map Value.string)) (hb : base ≤ W.heap.size) (hn : n ≤ 4096) :
  ∃ g cap w', (Builtin.append_ #[22, 22] 22 #[v, .slice (some ⟨W.heap.size, 0, none⟩) 1 1]).run Tryz.prog (W.alloc (.cells #[.string x] 9)) = .ok (.slice (some ⟨g, 0, none⟩) (n + 1) cap) w' ∧
   w'.ownsRow base 9 1 (.slice (some ⟨g, 0, none⟩) (n + 1) cap) (n + 1) ((l ++ [x]).map Value.string) ∧ (W.alloc (.cells #[.string x] 9)).grownBy w' v.ownBlock ∧ (v.ownBlock = some g ∨ g = W.heap.size + 1) ∧ base ≤ g ∧ g < w'.heap.size := by
 obtain ⟨i0, hi, hz0, hz1, hz2⟩ := info_parts Tryz.info9
 obtain ⟨g, cap, w', h1, h2, h3, h4, h5⟩ := run_append_lies (P := Tryz.prog) (W.alloc (.cells #[.string x] 9)) 22 22 base 9 i0 _ 1 16 Tryz.underlying22 hi hz0 hz1 hz2 rfl (by decide) v n (l.map Value.string) (hown.alloc _) ⟨W.heap.size, 0, none⟩ 1 1 [.string x] rfl
  (by
   intro j u hj
   match j, hj with
   | 0, hj => simp at hj; subst hj; rw [at_add]; exact World.cell?_alloc_at _ _ _ _ rfl)
  (by intro u hu; simp at hu; subst hu; rfl) (by omega) (by unfold maxLen; omega) (by omega) (by simp; omega) (W.heap.size + 1) (by simp)
 refine ⟨g, cap, w', h1, by rw [List.map_append]; exact h2, h3, h4, (h2.lt g rfl).1, h5⟩
theorem owns_S {w : World} {base : Nat} {v : Value} {n : Nat} {l : List ByteArray} (h : w.ownsRow base 9 1 v n (l.map Value.string)) (hl : ∀ x ∈ l, x.size ≤ maxLen) : ∃ a c, v = .slice a n c ∧ n = l.length ∧ IsS w a c l ∧ From base a := by
 have hlen : l.length = n := by simpa using h.1
 have hcells := fun g => h.cells (g := g)
 have hlt := h.lt
 rcases h.2 with ⟨rfl, rfl⟩ | ⟨g, cap, cur, rfl, hg, hh, hnc, hcm, hcs, htk⟩
 ·
  obtain rfl : l = [] := List.length_eq_zero_iff.1 hlen
  exact ⟨none, 0, rfl, rfl, ⟨Nat.le_refl _, Nat.zero_le _, fun j m hj => by simp at hj⟩, from_nil _⟩
 ·
  refine ⟨_, _, rfl, hlen.symm, ⟨by omega, hcm, fun j x hx => ⟨g, 0, rfl, (hlt g rfl).2, ?_, hl x (List.mem_of_getElem? hx)⟩⟩, fun x hx => by cases hx; exact hg⟩
  have := hcells g rfl j (.string x) (by rw [List.getElem?_map, hx]; rfl)
  rw [at_add] at this
  exact this
theorem push_Z (W : World) (base : Nat) (v : Value) (n : Nat) (l : List Int) (x : Int) (hown : W.ownsRow base 3 1 v n (l.map (Value.int .i64))) (hb : base ≤ W.heap.size) (hn : n ≤ 4096) :
  ∃ g cap w', (Builtin.append_ #[99, 99] 99 #[v, .slice (some ⟨W.heap.size, 0, none⟩) 1 1]).run Tryz.prog (W.alloc (.cells #[.int .i64 x] 3)) = .ok (.slice (some ⟨g, 0, none⟩) (n + 1) cap) w' ∧
   w'.ownsRow base 3 1 (.slice (some ⟨g, 0, none⟩) (n + 1) cap) (n + 1) ((l ++ [x]).map (Value.int .i64)) ∧ (W.alloc (.cells #[.int .i64 x] 3)).grownBy w' v.ownBlock ∧ (v.ownBlock = some g ∨ g = W.heap.size + 1) ∧ base ≤ g ∧ g < w'.heap.size := by
 obtain ⟨i0, hi, hz0, hz1, hz2⟩ := info_parts Tryz.info3
 obtain ⟨g, cap, w', h1, h2, h3, h4, h5⟩ := run_append_lies (P := Tryz.prog) (W.alloc (.cells #[.int .i64 x] 3)) 99 99 base 3 i0 _ 1 8 Tryz.underlying99 hi hz0 hz1 hz2 rfl (by decide) v n (l.map (Value.int .i64)) (hown.alloc _) ⟨W.heap.size, 0, none⟩ 1 1 [.int .i64 x] rfl
  (by
   intro j u hj
   match j, hj with
   | 0, hj => simp at hj; subst hj; rw [at_add]; exact World.cell?_alloc_at _ _ _ _ rfl)
  (by intro u hu; simp at hu; subst hu; rfl) (by omega) (by unfold maxLen; omega) (by omega) (by simp; omega) (W.heap.size + 1) (by simp)
 refine ⟨g, cap, w', h1, by rw [List.map_append]; exact h2, h3, h4, (h2.lt g rfl).1, h5⟩
theorem owns_I {w : World} {base : Nat} {v : Value} {n : Nat} {l : List Int} (h : w.ownsRow base 3 1 v n (l.map (Value.int .i64))) : ∃ a c, v = .slice a n c ∧ n = l.length ∧ IsI w a c l ∧ From base a := by
 have hlen : l.length = n := by simpa using h.1
 have hcells := fun g => h.cells (g := g)
 have hlt := h.lt
 rcases h.2 with ⟨rfl, rfl⟩ | ⟨g, cap, cur, rfl, hg, hh, hnc, hcm, hcs, htk⟩
 ·
  obtain rfl : l = [] := List.length_eq_zero_iff.1 hlen
  exact ⟨none, 0, rfl, rfl, ⟨Nat.le_refl _, Nat.zero_le _, fun j m hj => by simp at hj⟩, from_nil _⟩
 ·
  refine ⟨_, _, rfl, hlen.symm, ⟨by omega, hcm, fun j x hx => ⟨g, 0, rfl, (hlt g rfl).2, ?_⟩⟩, fun x hx => by cases hx; exact hg⟩
  have := hcells g rfl j (.int .i64 x) (by rw [List.getElem?_map, hx]; rfl)
  rw [at_add] at this
  exact this
end Go.Proofs.YtaobfgplheoefaaGreat
