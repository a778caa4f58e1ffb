/-
  What the document's own Turned does.
-/
import Derived.Test.YtdnmiipeimfccaaSumSeal
import Derived.Laws.IdiomStrings
namespace Go.Proofs.Ytdnmiipeimfccaa
open Go.RowKit Plain
set_option linter.unusedVariables false

/-- A row of bytes that may be written, and its first ones. -/
def BytesAt (w : World) (b : Nat) (l : List UInt8) : Prop :=
  ∀ j x, l[j]? = some x → w.cell? ⟨b, j, none⟩ = some (cellOf x) ∧ w.frozen? ⟨b, j, none⟩ = false

/-- One bit of a text turned. -/
def turnBit (l : List UInt8) (k : Nat) : List UInt8 := l.set (k / 8) ((l[k / 8]?.getD 0) ^^^ (UInt8.ofNat (2 ^ (k % 8))))

/-- The first so many bits of a pattern turned, from a place on. -/
def turnN (l : List UInt8) (f p : Nat) : Nat → List UInt8
  | 0 => l
  | i + 1 => if f + i < 8 * l.length ∧ p / 2 ^ i % 2 = 1 then turnBit (turnN l f p i) (f + i) else turnN l f p i

theorem turnBit_length (l : List UInt8) (k : Nat) : (turnBit l k).length = l.length := by simp [turnBit]

theorem turnN_length (l : List UInt8) (f p i : Nat) : (turnN l f p i).length = l.length := by
  induction i with
  | zero => rfl
  | succ i ih =>
    unfold turnN
    split
    · rw [turnBit_length, ih]
    · exact ih

theorem conv_at (w : World) (b : Nat) (l : List UInt8) (m cap : Nat) (hm : l.length = m) (h : BytesAt w b l) :
    (convert 41 9 (.slice (some ⟨b, 0, none⟩) m cap)).run Try.prog w = .ok (.string ⟨l.toArray⟩) w := by
  subst hm
  refine run_convert_bytes_back (P := Try.prog) _ 41 9 5 ⟨b, 0, none⟩ cap l Try.underlying41 Try.underlying5 Try.underlying9 fun j hj => ?_
  have e : (⟨b, 0, none⟩ : Addr).add j = ⟨b, j, none⟩ := by
    by_cases h : j = 0 <;> simp [Addr.add, h]
  rw [e]
  exact (h j _ (List.getElem?_eq_getElem hj)).1

theorem BytesAt.set {w : World} {b : Nat} {l : List UInt8} (h : BytesAt w b l) {j : Nat} (hj : j < l.length) (y : UInt8) : BytesAt (w.setCell ⟨b, j, none⟩ (cellOf y)) b (l.set j y) := by
  intro i x hx
  rw [World.frozen?_setCell]
  by_cases e : i = j
  · subst e
    rw [List.getElem?_set_self hj] at hx
    cases hx
    exact ⟨World.cell?_setCell_same _ _ _ (h i _ (List.getElem?_eq_getElem hj)).1, (h i _ (List.getElem?_eq_getElem hj)).2⟩
  · rw [List.getElem?_set_ne (fun h => e h.symm)] at hx
    rw [World.cell?_setCell_other _ _ _ _ (fun hh => e (by cases hh; rfl))]
    exact h i x hx

theorem xor_bit (x : UInt8) (k : Nat) : (Value.int .u8 (bits .xor .u8 (x.toNat : Int) (2 ^ (k % 8) % 256))) = cellOf (x ^^^ UInt8.ofNat (2 ^ (k % 8))) := by
  have h8 : k % 8 < 8 := Nat.mod_lt _ (by decide)
  have hp : 2 ^ (k % 8) < 2 ^ 8 := Nat.pow_lt_pow_right (by decide) h8
  have e : ((2 : Int) ^ (k % 8) % 256) = ((2 ^ (k % 8) % 256 : Nat) : Int) := by simp
  unfold cellOf
  rw [e, u8_xor_nat _ _ x.toNat_lt (by omega), UInt8.toNat_xor, UInt8.toNat_ofNat']

theorem pat_bit (p i : Nat) : ((p : Int) / 2 ^ i).tmod 2 = ((p / 2 ^ i % 2 : Nat) : Int) := by
  have e : ((2 : Int) ^ i) = ((2 ^ i : Nat) : Int) := by simp
  rw [e, ← Int.natCast_ediv, Int.tmod_eq_emod_of_nonneg (Int.natCast_nonneg _)]
  omega

set_option maxHeartbeats 1000000 in
theorem turned_ok (s : ByteArray) (f p : Nat) (w : World) (hs : s.size ≤ 1000000) (hf : f < 8 * s.size) (hp : p < 4294967296) :
    Calls Try.prog 19 #[.string s, .int .i64 f, .int .u32 p] w fun e w' => e = .returned (.string ⟨(turnN s.data.toList f p 32).toArray⟩) ∧ Below w.heap.size w w' := by
  obtain ⟨cap, w1, hcv, hby, hB⟩ : ∃ cap w1, (convert 9 41 (.string s)).run Try.prog w = .ok (.slice (some ⟨w.heap.size, 0, none⟩) s.size cap) w1 ∧ BytesAt w1 w.heap.size s.data.toList ∧ Below w.heap.size w w1 := by
    refine ⟨_, _, run_bytes_of_string (P := Try.prog) w 9 41 5 s Try.underlying9 Try.underlying41 Try.underlying5, ?_, ?_⟩
    · intro j x hx
      have hj : j < s.data.size := (List.getElem?_eq_some_iff.1 hx).1
      have hxe : s.data[j] = x := by
        rw [Array.getElem?_toList] at hx
        rw [Array.getElem?_eq_getElem hj] at hx
        exact Option.some.inj hx
      have h1 := bytesRow_at s (grownCap w s.size 0 5) j hj
      have h2 : j < (bytesRow s (grownCap w s.size 0 5)).size := (Array.getElem?_eq_some_iff.1 h1).1
      refine ⟨(World.cell?_alloc_mark w.drew _ _ _ j).trans (h1.trans (by rw [hxe]; rfl)), (World.frozen?_alloc_mark w.drew _ _ _ _ j).trans ?_⟩
      rw [Bool.and_eq_false_iff]
      exact .inl (decide_eq_false (by omega))
    · exact ((Below.refl _ _).drew).alloc (Nat.le_refl _) _
  have HBY : Hid (BytesAt w1 w.heap.size s.data.toList) := hby
  clear hby
  go_enter Try.func19, Try.ntmps19
  go_wp2
  go_loopw [8] (fun v wr => ∃ i : Nat, i ≤ 32 ∧ v = .int .i64 i ∧ BytesAt wr w.heap.size (turnN s.data.toList f p i) ∧ Below w.heap.size w wr) (fun v _ => 32 - (intOf v).toNat)
  case atStart => exact ⟨0, by omega, rfl, HBY.out, hB⟩
  case round =>
    obtain ⟨i, hi, rfl, hby, hbel⟩ := hrel
    have HB : Hid _ := hby
    clear hby
    by_cases hlt : i < 32
    · obtain ⟨k, hk⟩ : ∃ k : Nat, (f : Int) + (i : Int) = (k : Int) := ⟨f + i, by omega⟩
      by_cases hin : k < 8 * s.size
      · have hin' : (k : Int) < 8 * (s.size : Int) := by omega
        have hk8 : k / 8 < (turnN s.data.toList f p i).length := by rw [turnN_length]; show k / 8 < s.size; omega
        by_cases hb1 : p / 2 ^ i % 2 = 1
        · have hb' : (((p : Int) / 2 ^ i).tmod 2 == 1) = true := by rw [pat_bit, hb1]; rfl
          obtain ⟨hc, hfz⟩ := HB.out (k / 8) _ (List.getElem?_eq_getElem hk8)
          have hnx : Hid (turnN s.data.toList f p (i + 1) = turnBit (turnN s.data.toList f p i) k) := by
            show (if f + i < 8 * s.data.toList.length ∧ p / 2 ^ i % 2 = 1 then turnBit (turnN s.data.toList f p i) (f + i) else turnN s.data.toList f p i) = _
            rw [if_pos ⟨by show f + i < 8 * s.size; omega, hb1⟩, show f + i = k by omega]
          have hset : Hid (∀ y, BytesAt (wr.setCell ⟨w.heap.size, k / 8, none⟩ (cellOf y)) w.heap.size ((turnN s.data.toList f p i).set (k / 8) y)) := fun y => BytesAt.set HB.out hk8 y
          have hgx : Hid (turnBit (turnN s.data.toList f p i) k = (turnN s.data.toList f p i).set (k / 8) ((turnN s.data.toList f p i)[k / 8] ^^^ UInt8.ofNat (2 ^ (k % 8)))) := by
            show turnBit _ _ = _
            unfold turnBit
            rw [List.getElem?_eq_getElem hk8]; rfl
          generalize (turnN s.data.toList f p i)[k / 8] = x at hc hgx
          unfold cellOf at hc
          go_wp2
          go_roundw
          case rel =>
            refine ⟨i + 1, by omega, by go_num, ?_, hbel.setCell (Nat.le_refl _) _⟩
            rw [hnx.out, hgx.out, xor_bit x k]
            exact hset.out _
          case measure => simp [intOf]; omega
        · have hb0 : p / 2 ^ i % 2 = 0 := by omega
          have hb' : (((p : Int) / 2 ^ i).tmod 2 == 1) = false := by rw [pat_bit, hb0]; rfl
          go_wp2
          go_roundw
          case rel =>
            refine ⟨i + 1, by omega, by go_num, ?_, hbel⟩
            show BytesAt wr w.heap.size (if f + i < 8 * s.data.toList.length ∧ p / 2 ^ i % 2 = 1 then turnBit (turnN s.data.toList f p i) (f + i) else turnN s.data.toList f p i)
            rw [if_neg (fun h => hb1 h.2)]
            exact HB.out
          case measure => simp [intOf]; omega
      · have hin' : ¬ (k : Int) < 8 * (s.size : Int) := by omega
        go_wp2
        go_roundw
        case rel =>
          refine ⟨i + 1, by omega, by go_num, ?_, hbel⟩
          show BytesAt wr w.heap.size (if f + i < 8 * s.data.toList.length ∧ p / 2 ^ i % 2 = 1 then turnBit (turnN s.data.toList f p i) (f + i) else turnN s.data.toList f p i)
          rw [if_neg (fun h => hin (by have h1 : f + i < 8 * s.size := h.1; omega))]
          exact HB.out
        case measure => simp [intOf]; omega
    · obtain rfl : i = 32 := by omega
      have hcv2 := conv_at wr w.heap.size (turnN s.data.toList f p 32) s.size cap (turnN_length _ _ _ _) HB.out
      go_wp2
      go_ret
      exact ⟨rfl, hbel⟩
end Go.Proofs.Ytdnmiipeimfccaa
