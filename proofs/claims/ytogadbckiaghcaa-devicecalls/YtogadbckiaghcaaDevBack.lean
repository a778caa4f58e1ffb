/-
  The library's slices.Backward over writes, as a range over it meets it.
-/
import Derived.Test.YtogadbckiaghcaaDevNew
import Derived.RangeFuncNested
import Derived.RangeFuncBound
import Derived.RangeFuncCalls
import Derived.RangeFuncLeaves
import Derived.Shelf.Abstract
import Derived.Shelf.RegionOpen
import Derived.WalkKit
import Derived.OwnWalkIn
import Derived.TacticsInMore
import Derived.LoopNIn
import Derived.LoopIn
namespace Go.Proofs.Ytogadbckiaghcaa
open Go.RowKit Go.Shelf Plain
set_option linter.unusedVariables false
attribute [local go_sem] Oper.semAt_some

/-- What comes in the j-th round: the last one first. -/
def backAt (ps : List (Int × ByteArray)) (j : Nat) : Int × (Int × ByteArray) := ((ps.length : Int) - 1 - j, ps[ps.length - 1 - j]?.getD (0, ByteArray.empty))

/-- What has come when so many rounds are over. -/
def backL (ps : List (Int × ByteArray)) (k : Nat) : List (Int × (Int × ByteArray)) := (List.range k).map (backAt ps)

theorem backL_succ (ps : List (Int × ByteArray)) (k : Nat) : backL ps (k + 1) = backL ps k ++ [backAt ps k] := by simp [backL, List.range_succ]
theorem backL_length (ps : List (Int × ByteArray)) (k : Nat) : (backL ps k).length = k := by simp [backL]

/-- What a round is handed. -/
def backV (x : Int × (Int × ByteArray)) : Array Value := #[.int .i64 x.1, .agg #[.int .i64 x.2.1, .string x.2.2]]

set_option maxRecDepth 100000 in
set_option maxHeartbeats 2000000 in
theorem back1_in (F : Fence) (n : Nat) (h7 : F.fn 38) (hro : F.round = none) (hn : 1 ≤ n) (l Bs c : Nat) (a : Option Addr) (ps : List (Int × ByteArray)) (hl : ps.length ≤ 2048) (W0 : World) (hB : Bs < W0.heap.size)
    (hBs : W0.cell? ⟨Bs, 0, none⟩ = some (.slice a ps.length c)) (hP : IsP W0 a c ps) (J Jx : List (Int × (Int × ByteArray)) → World → Prop)
    (hY : ∀ pre x W, J pre W → pre.length < ps.length → YieldAt F (n - 1) Try.prog l (backV x) W fun e W' =>
      (e = .returned (.bool true) ∧ J (pre ++ [x]) W' ∧ Below W0.heap.size W W') ∨ (e = .returned (.bool false) ∧ Jx (pre ++ [x]) W'))
    (W : World) (hW : Below W0.heap.size W0 W) (h0 : J [] W) :
    CallsIn F n Try.prog 38 #[.func (.yield l) #[] #[], .pointer (some ⟨Bs, 0, none⟩)] W fun e W' => (∃ v, e = .returned v) ∧
      ((∃ ys, ys = backL ps ps.length ∧ J ys W') ∨ (∃ pre, (∃ k, k ≤ ps.length ∧ pre = backL ps k) ∧ Jx pre W')) := by
  have hb0 := cell_below hW hBs
  have HP : Hid (IsP W0 a c ps) := hP
  clear hP
  refine callsIn_of_wp Try.func38 rfl h7 ?_ hro
  simp only [Try.ntmps38, List.size_toArray, List.length_cons, List.length_nil, Nat.reduceAdd, Nat.reduceSub, Array.replicate_succ, Array.replicate_zero, List.push_toArray, List.append_toArray, List.nil_append, List.cons_append]
  gi_wp2
  gi_loopw [3] (fun i wr => ∃ k : Nat, k ≤ ps.length ∧ i = .int .i64 ((ps.length : Int) - 1 - k) ∧ J (backL ps k) wr ∧ Below W0.heap.size W0 wr)
    (fun i _ => (intOf i + 1).toNat)
  case atStart => exact ⟨0, Nat.zero_le _, by simp, h0, hW⟩
  case round =>
    obtain ⟨k, hk, rfl, hJs, hnx⟩ := hrel
    have hcb := cell_below hnx hBs
    by_cases hlt : k < ps.length
    · obtain ⟨p, hp⟩ : ∃ p, ps[ps.length - 1 - k]? = some p := ⟨_, List.getElem?_eq_getElem (by omega)⟩
      obtain ⟨b, o, rfl, hlb, hc1, hc2, hxs, hlo, hhi⟩ := HP.out.2.2 _ p hp
      replace hc1 := cell_below hnx hc1
      replace hc2 := cell_below hnx hc2
      have hx : backAt ps k = ((ps.length : Int) - 1 - k, p) := by unfold backAt; rw [hp]; rfl
      obtain ⟨m, hm⟩ : ∃ m, m = ps.length - 1 - k := ⟨_, rfl⟩
      have hmi : (ps.length : Int) - 1 - k = m := by omega
      obtain ⟨fn, tmps, assign, body, hy, hR⟩ := hY _ (backAt ps k) wr hJs (by rw [backL_length]; exact hlt)
      rw [← hm] at hc1 hc2
      rw [hx, hmi] at hy hR
      rw [hmi]
      dsimp only [backV] at hy
      have hmlt : (m : Int) < ps.length := by omega
      have hmn : m < ps.length := by omega
      have Hk : Hid ((ps.length : Int) - 1 - k = m) := hmi
      have Hx : Hid (backAt ps k = ((m : Int), p)) := by show _ = _; rw [hx, hmi]
      clear hp hm hmi hx
      gi_wp2
      refine hR.mono ?_
      rintro e W3 (⟨rfl, hJ3, hk3⟩ | ⟨rfl, hJx3⟩)
      · gi_wp2
        go_roundw
        case rel => exact ⟨k + 1, by omega, by have := Hk.out; go_num, by rw [backL_succ, Hx.out]; exact hJ3, hnx.trans hk3⟩
        case measure => simp [intOf]
      · gi_wp2
        refine bodyPost_ret (results_none rfl _ _ _) rfl ?_
        exact ⟨⟨_, rfl⟩, .inr ⟨_, ⟨k + 1, by omega, by rw [backL_succ, Hx.out]⟩, hJx3⟩⟩
    · obtain rfl : k = ps.length := by omega
      gi_wp2
      go_end0
      exact ⟨⟨_, rfl⟩, .inl ⟨_, rfl, hJs⟩⟩

set_option maxHeartbeats 1000000 in
theorem back_in (F : Fence) (n : Nat) (h5 : F.fn 30) (hro : F.round = none) (a : Option Addr) (len cap : Nat) (w : World) :
    CallsIn F n Try.prog 30 #[.slice a len cap] w fun e w' => e = .returned (.func (.func 38) #[] #[.pointer (some ⟨w.heap.size, 0, none⟩)]) ∧ w' = w.alloc (.cells #[.slice a len cap] 23) := by
  refine callsIn_of_wp Try.func30 rfl h5 ?_ hro
  simp only [Try.ntmps30, List.size_toArray, List.length_cons, List.length_nil, Nat.reduceAdd, Nat.reduceSub, Array.replicate_succ, Array.replicate_zero, List.push_toArray, List.append_toArray, List.nil_append, List.cons_append]
  gi_wp2
  go_ret
  exact ⟨rfl, rfl⟩

theorem back_stops (F : Fence) (n : Nat) (h7 : F.fn 38) (hro : F.round = none) (hn : 1 ≤ n) (Bs c : Nat) (a : Option Addr) (ps : List (Int × ByteArray)) (hl : ps.length ≤ 2048) (w : World) (hB : Bs < w.heap.size)
    (hBs : w.cell? ⟨Bs, 0, none⟩ = some (.slice a ps.length c)) (hP : IsP w a c ps) :
    SeqStopsK F n Try.prog 38 #[.pointer (some ⟨Bs, 0, none⟩)] backV (Below w.heap.size) (fun ys => ys = backL ps ps.length) (fun pre => ∃ k, k ≤ ps.length ∧ pre = backL ps k) ps.length w :=
  fun l J Jx W hW _ _ hY h0 => back1_in F n h7 hro hn l Bs c a ps hl w hB hBs hP J Jx hY W hW h0

end Go.Proofs.Ytogadbckiaghcaa
