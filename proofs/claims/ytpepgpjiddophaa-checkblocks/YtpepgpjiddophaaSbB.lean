/-
  Texts laid together: SumSeal SumRefSeal PagePlain RefPut RefText Pad PagePut Get PageGet RefGet PageRefGet NodeReader NodeFew NodeLeaf NodeInner NodeRef NodeStand NodeRead NodeOnce NodeGet NodeGetB NodeRefB NodeRefGet.
-/
import Derived.Test.YtpepgpjiddophaaSbA
import Derived.Deep.RegionHeld3
import Derived.Deep.AppendLies
import Derived.Lib.AppendZeros
namespace Go.Proofs.Ytpepgpjiddophaa
open Go.RowKit Plain
set_option linter.unusedVariables false
def le4C (n i : Nat) : Array Value := (((le4 n).take i ++ List.replicate (4 - i) 0).map cellOf).toArray
theorem le4C_zero (n : Nat) : le4C n 0 = madeCells #[.int .u8 0] 4 := by
 apply Array.toList_inj.1
 rw [toList_madeCells_one]
 simp [le4C, cellOf]
theorem le4C_full (n : Nat) : le4C n 4 = ((le4 n).map cellOf).toArray := by
 simp [le4C, le4]
theorem cell_mod (x : Nat) : (Value.int .u8 ((x : Int) % 256)) = cellOf (UInt8.ofNat (x % 256)) := by
 unfold cellOf
 rw [UInt8.toNat_ofNat']
 congr 1
 omega
theorem le4C_succ (n i : Nat) (h : i < 4) : (le4C n i).setIfInBounds i (.int .u8 ((n : Int) / 2 ^ (8 * i) % 256)) = le4C n (i + 1) := by
 have e : ((n : Int) / 2 ^ (8 * i)) = ((n / 2 ^ (8 * i) : Nat) : Int) := by
  rw [Int.natCast_ediv]; simp
 rw [e, cell_mod]
 match i, h with
 | 0, _ => simp [le4C, le4]
 | 1, _ => simp [le4C, le4]
 | 2, _ => simp [le4C, le4]
 | 3, _ => simp [le4C, le4]
theorem le4C_get (n i : Nat) (h : i < 4) : ∃ x : Int, (le4C n i)[i]? = some (.int .u8 x) := by
 match i, h with
 | 0, _ => exact ⟨_, rfl⟩
 | 1, _ => exact ⟨_, rfl⟩
 | 2, _ => exact ⟨_, rfl⟩
 | 3, _ => exact ⟨_, rfl⟩
def le4S (n : Nat) : ByteArray := ⟨(le4 n).toArray⟩
theorem le4S_size (n : Nat) : (le4S n).size = 4 := rfl
set_option maxHeartbeats 400000 in
theorem bytesOf_ok (n : Nat) (w : World) (hn : n < 4294967296) :
  Calls Try.prog 72 #[.int .u32 n] w fun e w' => e = .returned (.string (le4S n)) ∧ Below w.heap.size w w' := by
 have hmk : ∀ W : World, (Instr.makeSlice 100 (.int .i64 4) (.int .i64 4)).run Try.prog W = .ok (.slice (some ⟨W.heap.size, 0, none⟩) 4 4) (W.alloc (.cells (madeCells #[.int .u8 0] 4) 5)) := fun W => run_make_row' (P := Try.prog) 100 5 (.int .u8 0) 1 Try.underlying100 Try.info5 rfl .i64 .i64 4 (by omega) (by omega) W
 go_enter Try.func72, Try.ntmps72
 go_wp2
 go_loopw [6] (fun v wr => ∃ i : Nat, i ≤ 4 ∧ v = .int .i64 i ∧ wr = w.alloc (.cells (le4C n i) 5)) (fun v _ => 4 - (intOf v).toNat)
 case atStart => exact ⟨0, by omega, rfl, by rw [le4C_zero]⟩
 case round =>
  obtain ⟨i, hi, rfl, rfl⟩ := hrel
  by_cases hlt : i < 4
  ·
   obtain ⟨x, hx⟩ := le4C_get n i hlt
   have HS : Hid ((le4C n i).setIfInBounds i (.int .u8 ((n : Int) / 2 ^ (8 * i) % 256)) = le4C n (i + 1)) := le4C_succ n i hlt
   go_wp2
   go_roundw
   case rel => exact ⟨i + 1, by omega, by go_num, by rw [HS.out]⟩
   case measure => simp [intOf]; omega
  ·
   obtain rfl : i = 4 := by omega
   rw [le4C_full]
   have hcv := conv_row w (le4 n) 4 rfl 4
   go_wp2
   go_ret
   exact ⟨rfl, (Below.refl _ _).alloc (Nat.le_refl _) _⟩
def sealS (s : ByteArray) : ByteArray := s ++ le4S (ofS s)
def headS (s : ByteArray) : ByteArray := s.extract 0 (s.size - 4)
def tailS (s : ByteArray) : ByteArray := s.extract (s.size - 4) s.size
def openE (s : ByteArray) : Int := if s.size < 4 then 3 else if tailS s = le4S (ofS (headS s)) then 0 else 41
def openS (s : ByteArray) : ByteArray := if openE s = 0 then headS s else ⟨#[]⟩
theorem of_one_from (w W : World) (hB : Below w.heap.size w W) (s : ByteArray) (hs : s.size ≤ maxLen) :
  Calls Try.prog 73 #[.slice (some ⟨W.heap.size, 0, none⟩) 1 1] (W.alloc (.cells #[.string s] 9)) fun e w' => e = .returned (.int .u32 (ofS s)) ∧ Below w.heap.size w w' :=
 (of_one s W hs).mono fun e w' ⟨he, hb'⟩ => ⟨he, Below.tr hB hb'⟩
theorem bytesOf_from (w W : World) (hB : Below w.heap.size w W) (n : Nat) (hn : n < 4294967296) :
  Calls Try.prog 72 #[.int .u32 n] W fun e w' => e = .returned (.string (le4S n)) ∧ Below w.heap.size w w' :=
 (bytesOf_ok n W hn).mono fun e w' ⟨he, hb'⟩ => ⟨he, Below.tr hB hb'⟩
set_option maxHeartbeats 1000000 in
theorem open_any (s : ByteArray) (w : World) (hs : s.size ≤ maxLen) :
  Calls Try.prog 56 #[.string s] w fun e w' => e = .returned (.tuple #[.string (openS s), .int .i64 (openE s)]) ∧ Below w.heap.size w w' := by
 have hB : Below w.heap.size w w := Below.refl _ _
 have hm : Hid ((headS s).size ≤ maxLen) := by
  show (s.extract 0 (s.size - 4)).size ≤ maxLen
  rw [ByteArray.size_extract]; omega
 unfold maxLen at hs
 by_cases h4 : s.size < 4
 ·
  have e1 : openE s = 3 := by unfold openE; rw [if_pos h4]
  have e2 : openS s = ⟨#[]⟩ := by unfold openS; rw [if_neg (by rw [e1]; decide)]
  rw [e1, e2]
  have h4' : (s.size : Int) < 4 := by omega
  go_enter Try.func56, Try.ntmps56
  go_wp2
  go_ret2
  exact ⟨rfl, hB⟩
 ·
  have h4' : ¬ (s.size : Int) < 4 := by omega
  obtain ⟨m, hm4⟩ : ∃ m : Nat, s.size - 4 = m := ⟨_, rfl⟩
  have ez : (s.size : Int) - 4 = (m : Int) := by omega
  have b1 : (0 : Int) ≤ (m : Int) := by omega
  have b2 : (m : Int) ≤ s.size := by omega
  unfold headS at hm
  rw [hm4] at hm
  have eh : headS s = s.extract 0 m := by unfold headS; rw [hm4]
  have et : tailS s = s.extract m s.size := by unfold tailS; rw [hm4]
  by_cases hq : s.extract m s.size = le4S (ofS (s.extract 0 m))
  ·
   have e1 : openE s = 0 := by unfold openE; rw [if_neg h4, et, eh, if_pos hq]
   have e2 : openS s = s.extract 0 m := by unfold openS; rw [if_pos e1, eh]
   rw [e1, e2]
   have hq' : (!(s.extract m s.size).toList == (le4S (ofS (s.extract 0 m))).toList) = false := str_ne_false hq
   clear hq eh et e1 e2
   go_enter Try.func56, Try.ntmps56
   go_wp2
   replace hB := Below.drew hB
   go_region_held3 (fun _ => True) (trivial) (first
    | (go_at_call 73; refine (of_one_from w _ hB (s.extract 0 m) hm.out).mono ?_; rintro e w' ⟨rfl, hb'⟩; clear hB; have hB := hb'; clear hb')
    | (go_at_call 72; refine (bytesOf_from w _ hB _ (ofS_lt _)).mono ?_; rintro e w' ⟨rfl, hb'⟩; clear hB; have hB := hb'; clear hb'))
   go_wp2
   go_ret2
   exact ⟨rfl, hB⟩
  ·
   have e1 : openE s = 41 := by unfold openE; rw [if_neg h4, et, eh, if_neg hq]
   have e2 : openS s = ⟨#[]⟩ := by unfold openS; rw [if_neg (by rw [e1]; decide)]
   rw [e1, e2]
   have hq' : (!(s.extract m s.size).toList == (le4S (ofS (s.extract 0 m))).toList) = true := str_ne_true hq
   clear hq eh et e1 e2
   go_enter Try.func56, Try.ntmps56
   go_wp2
   replace hB := Below.drew hB
   go_region_held3 (fun _ => True) (trivial) (first
    | (go_at_call 73; refine (of_one_from w _ hB (s.extract 0 m) hm.out).mono ?_; rintro e w' ⟨rfl, hb'⟩; clear hB; have hB := hb'; clear hb')
    | (go_at_call 72; refine (bytesOf_from w _ hB _ (ofS_lt _)).mono ?_; rintro e w' ⟨rfl, hb'⟩; clear hB; have hB := hb'; clear hb'))
   go_wp2
   go_ret2
   exact ⟨rfl, hB⟩
theorem le4_cells (n : Nat) : (#[.int .u8 ((n : Int) % 256), .int .u8 ((n : Int) / 256 % 256), .int .u8 ((n : Int) / 65536 % 256), .int .u8 ((n : Int) / 16777216 % 256)] : Array Value) = ((le4 n).map cellOf).toArray := by
 have e1 : ((n : Int) / 256) = ((n / 256 : Nat) : Int) := by omega
 have e2 : ((n : Int) / 65536) = ((n / 65536 : Nat) : Int) := by omega
 have e3 : ((n : Int) / 16777216) = ((n / 16777216 : Nat) : Int) := by omega
 rw [e1, e2, e3, cell_mod, cell_mod, cell_mod, cell_mod]
 rfl
set_option maxHeartbeats 400000 in
theorem refSeal_ok (s : ByteArray) (w : World) (hs : s.size ≤ 1000000) :
  Calls Try.prog 43 #[.string s] w fun e w' => e = .returned (.string (sealS s)) ∧ Below w.heap.size w w' := by
 have hm : Hid (s.size ≤ maxLen) := Nat.le_trans hs (by decide)
 have hl := ofS_lt s
 have hcv := conv_row w (le4 (ofS s)) 4 rfl 4
 rw [← le4_cells, show ((ofS s : Nat) : Int) / 16777216 % 256 = ((ofS s : Nat) : Int) / 16777216 by omega] at hcv
 have hadd : ¬ 9223372036854775807 < s.size + (le4S (ofS s)).size := by rw [le4S_size]; omega
 unfold le4S at hadd
 go_enter Try.func43, Try.ntmps43
 go_wp2_with (go_at_call 53; refine (refOf_ok _ _ hm.out).mono ?_; rintro e w' ⟨rfl, rfl⟩)
 go_ret
 exact ⟨rfl, (Below.refl _ _).alloc (Nat.le_refl _) _⟩
theorem split_text (s : ByteArray) (h : 4 ≤ s.size) : headS s ++ tailS s = s := by
 apply bytes_ext
 rw [data_append]
 unfold headS tailS
 simp only [ByteArray.data_extract, Array.toList_extract, List.extract_eq_take_drop]
 simp
 have : s.data.toList.length = s.size := rfl
 conv => rhs; rw [← List.take_append_drop (s.size - 4) s.data.toList]
 congr 1
 apply List.take_of_length_le
 simp
theorem sealed_head (s : ByteArray) (h : 4 ≤ s.size) : sealS (headS s) = s ↔ tailS s = le4S (ofS (headS s)) := by
 have hs := split_text s h
 unfold sealS
 constructor
 ·
  intro he
  have h2 : (headS s).data.toList ++ (le4S (ofS (headS s))).data.toList = (headS s).data.toList ++ (tailS s).data.toList := by
   rw [← data_append, ← data_append, he, hs]
  exact (bytes_ext (List.append_cancel_left h2)).symm
 ·
  intro he
  rw [← he, hs]
end Go.Proofs.Ytpepgpjiddophaa
namespace Go.Proofs.Ytpepgpjiddophaa.Plain
open Go.RowKit
def rightP (k g : Int) (b : ByteArray) : Bool := decide (1 ≤ k ∧ k ≤ 5 ∧ 0 ≤ g ∧ g ≤ 1099511627776 ∧ b.size ≤ 4000)
theorem rightP_iff (k g : Int) (b : ByteArray) : rightP k g b = true ↔ (1 ≤ k ∧ k ≤ 5 ∧ 0 ≤ g ∧ g ≤ 1099511627776 ∧ b.size ≤ 4000) := by simp [rightP]
def fN (F : ByteArray) : Nat := (getV F 7 2).toNat
def fK (F : ByteArray) : Int := getV F 0 1
def fG (F : ByteArray) : Int := getV F 1 6
def fB (F : ByteArray) : ByteArray := F.extract 9 (9 + fN F)
def fSealed (F : ByteArray) : Bool := decide (sealS (F.extract 0 (9 + fN F)) = F.extract 0 (13 + fN F))
theorem fSealed_iff (F : ByteArray) : fSealed F = true ↔ sealS (F.extract 0 (9 + fN F)) = F.extract 0 (13 + fN F) := by simp [fSealed]
def fRest (F : ByteArray) : ByteArray := F.extract (13 + fN F) F.size
def fE (F : ByteArray) : Int :=
 if 4000 < fN F then 4 else if fSealed F then (if 1 ≤ fK F ∧ fK F ≤ 5 then (if fG F ≤ 1099511627776 ∧ trimS (fRest F) = ⟨#[]⟩ then 0 else 4) else 40) else 41
def fullS (s : ByteArray) : ByteArray := s ++ zeros (4096 - s.size)
def readE (s : ByteArray) : Int := if s.size ≤ 4096 then fE (fullS s) else 1
def readK (s : ByteArray) : Int := if readE s = 0 then fK (fullS s) else 0
def readG (s : ByteArray) : Int := if readE s = 0 then fG (fullS s) else 0
def readB (s : ByteArray) : ByteArray := if readE s = 0 then fB (fullS s) else ⟨#[]⟩
theorem fullS_size {s : ByteArray} (h : s.size ≤ 4096) : (fullS s).size = 4096 := by
 rw [fullS, ByteArray.size_append, zeros_size]; omega
end Go.Proofs.Ytpepgpjiddophaa.Plain
namespace Go.Proofs.Ytpepgpjiddophaa
open Go.RowKit Plain
end Go.Proofs.Ytpepgpjiddophaa
namespace Go.Proofs.Ytpepgpjiddophaa
open Go.RowKit Plain
set_option linter.unusedVariables false
set_option maxHeartbeats 400000 in
theorem refTrim_any (s : ByteArray) (w : World) (hs : s.size ≤ maxLen) :
  Calls Try.prog 46 #[.string s] w fun e w' => e = .returned (.string (trimS s)) ∧ w = w' := by
 unfold maxLen at hs
 go_enter Try.func46, Try.ntmps46
 go_wp2
 go_loop [3] (fun v => ∃ k : Nat, k ≤ s.size ∧ v = .int .i64 k ∧ trimN s s.size = trimN s k) (fun v => (intOf v).toNat)
 case atStart => exact ⟨s.size, by omega, rfl, rfl⟩
 case round =>
  obtain ⟨k, hk, rfl, HT⟩ := hrel
  have HT' : Hid (trimN s s.size = trimN s k) := HT
  clear HT
  match k, hk, HT' with
  | 0, hk, HT' =>
   have e0 : Hid (trimS s = ByteArray.empty) := trimS_none s HT'.out
   go_wp2
   go_ret
   exact ⟨ret_str e0.out.symm, rfl⟩
  | k + 1, hk, HT' =>
   have ek : (((k + 1 : Nat) : Int)) = (k : Int) + 1 := by omega
   rw [ek]
   by_cases hz : s[k] = 0
   ·
    have ht : Hid (trimN s (k + 1) = trimN s k) := trimN_down s k (by omega) hz
    have hz' : ((s[k].toNat : Int) == 0) = true := by rw [hz]; rfl
    clear hz
    go_wp2
    go_round
    case rel => exact ⟨k, by omega, rfl, by rw [HT'.out, ht.out]⟩
    case measure => simp [intOf]
   ·
    have ht : Hid (trimN s (k + 1) = k + 1) := trimN_stay s k (by omega) hz
    have hz' : ((s[k].toNat : Int) == 0) = false := by
     have : s[k].toNat ≠ 0 := fun h => hz (UInt8.toNat_inj.1 h)
     simpa using this
    clear hz
    go_wp2
    go_ret
    exact ⟨ret_str (by rw [trimS, HT'.out, ht.out]), rfl⟩
set_option maxHeartbeats 400000 in
theorem refPad_any (s : ByteArray) (k : Int) (w : World) (hs : s.size ≤ maxLen) :
  Calls Try.prog 42 #[.string s, .int .i64 k] w fun e w' => e = .returned (.tuple #[.string (padS s k), .int .i64 (padE s k)]) ∧ Below w.heap.size w w' := by
 unfold maxLen at hs
 have hB : Below w.heap.size w w := Below.refl _ _
 by_cases h : 0 ≤ k ∧ k ≤ 4096
 ·
  obtain ⟨h0, h1⟩ := h
  obtain ⟨m, rfl⟩ : ∃ m : Nat, k = m := ⟨k.toNat, by omega⟩
  have hk0 : ¬ (m : Int) < 0 := by omega
  have hk1 : ¬ (4096 : Int) < m := by omega
  by_cases hl : s.size ≤ m
  ·
   have hE : padE s m = 0 := by unfold padE; rw [if_pos ⟨h0, h1⟩, if_pos (by omega)]
   have hl' : ¬ m < s.size := by omega
   have ed : (m : Int) - (s.size : Int) = ((m - s.size : Nat) : Int) := by omega
   have hd : m - s.size ≤ 4096 := by omega
   rw [padS, hE, if_pos rfl]
   show Calls _ _ _ _ fun e w' => e = .returned (.tuple #[.string (s ++ zeros (m - s.size)), .int .i64 0]) ∧ _
   generalize m - s.size = d at ed hd
   have hmk := fun W => run_make_row' (P := Try.prog) 100 5 (.int .u8 0) 1 Try.underlying100 Try.info5 rfl .i64 .i64 d (by omega) (by omega) W
   have hcv := conv_row w (List.replicate d 0) d (List.length_replicate) d
   rw [zeros_cells] at hcv
   have ez : (⟨(List.replicate d 0).toArray⟩ : ByteArray) = zeros d := rfl
   rw [ez] at hcv
   have hsum : ¬ 9223372036854775807 < s.size + (zeros d).size := by rw [zeros_size]; omega
   clear hE ez
   go_enter Try.func42, Try.ntmps42
   go_wp2
   go_ret2
   exact ⟨rfl, hB.alloc (Nat.le_refl _) _⟩
  ·
   have hE : padE s m = 2 := by unfold padE; rw [if_pos ⟨h0, h1⟩, if_neg (by omega)]
   rw [padS, hE, if_neg (by decide)]
   have hl' : m < s.size := by omega
   clear hE
   go_enter Try.func42, Try.ntmps42
   go_wp2
   go_ret2
   exact ⟨rfl, hB⟩
 ·
  have hE : padE s k = 1 := by unfold padE; rw [if_neg h]
  rw [padS, hE, if_neg (by decide)]
  clear hE
  by_cases h0 : k < 0
  ·
   go_enter Try.func42, Try.ntmps42
   go_wp2
   go_ret2
   exact ⟨rfl, hB⟩
  ·
   have h1 : 4096 < k := by omega
   clear h
   go_enter Try.func42, Try.ntmps42
   go_wp2
   go_ret2
   exact ⟨rfl, hB⟩
set_option maxHeartbeats 400000 in
theorem trim_any (s : ByteArray) (w : World) (hs : s.size ≤ maxLen) :
  Calls Try.prog 60 #[.string s] w fun e w' => e = .returned (.string (trimS s)) ∧ w = w' := by
 unfold maxLen at hs
 go_enter Try.func60, Try.ntmps60
 go_wp2
 go_loop [3] (fun v => ∃ k : Nat, k ≤ s.size ∧ v = .int .i64 k ∧ trimN s s.size = trimN s k) (fun v => (intOf v).toNat)
 case atStart => exact ⟨s.size, by omega, rfl, rfl⟩
 case round =>
  obtain ⟨k, hk, rfl, HT⟩ := hrel
  have HT' : Hid (trimN s s.size = trimN s k) := HT
  clear HT
  match k, hk, HT' with
  | 0, hk, HT' =>
   have e0 : Hid (trimS s = ByteArray.empty) := trimS_none s HT'.out
   go_wp2
   go_ret
   exact ⟨ret_str e0.out.symm, rfl⟩
  | k + 1, hk, HT' =>
   have ek : (((k + 1 : Nat) : Int)) = (k : Int) + 1 := by omega
   rw [ek]
   by_cases hz : s[k] = 0
   ·
    have ht : Hid (trimN s (k + 1) = trimN s k) := trimN_down s k (by omega) hz
    have hz' : ((s[k].toNat : Int) == 0) = true := by rw [hz]; rfl
    clear hz
    go_wp2
    go_round
    case rel => exact ⟨k, by omega, rfl, by rw [HT'.out, ht.out]⟩
    case measure => simp [intOf]
   ·
    have ht : Hid (trimN s (k + 1) = k + 1) := trimN_stay s k (by omega) hz
    have hz' : ((s[k].toNat : Int) == 0) = false := by
     have : s[k].toNat ≠ 0 := fun h => hz (UInt8.toNat_inj.1 h)
     simpa using this
    clear hz
    go_wp2
    go_ret
    exact ⟨ret_str (by rw [trimS, HT'.out, ht.out]), rfl⟩
theorem repeat_any (c : Nat) (w : World) (h : c ≤ 4096) :
  Calls Try.prog 70 #[.string ⟨#[0]⟩, .int .i64 c] w fun e w' => e = .returned (.string (zeros c)) ∧ Below w.heap.size w w' := by
 have h := Try.strings_Repeat ⟨#[0]⟩ c w (by omega) (by show 1 * c ≤ _; omega)
 have e1 : (⟨(Lib.repeatL (⟨#[0]⟩ : ByteArray).data.toList c).toArray⟩ : ByteArray) = zeros c := by
  show (⟨(Lib.repeatL [0] c).toArray⟩ : ByteArray) = _
  rw [repeat_flat]; rfl
 rw [e1] at h
 exact h
set_option maxHeartbeats 400000 in
theorem pad_any (s : ByteArray) (k : Int) (w : World) (hs : s.size ≤ maxLen) :
  Calls Try.prog 54 #[.string s, .int .i64 k] w fun e w' => e = .returned (.tuple #[.string (padS s k), .int .i64 (padE s k)]) ∧ Below w.heap.size w w' := by
 unfold maxLen at hs
 have hB : Below w.heap.size w w := Below.refl _ _
 by_cases h : 0 ≤ k ∧ k ≤ 4096
 ·
  obtain ⟨h0, h1⟩ := h
  obtain ⟨m, rfl⟩ : ∃ m : Nat, k = m := ⟨k.toNat, by omega⟩
  have hk0 : ¬ (m : Int) < 0 := by omega
  have hk1 : ¬ (4096 : Int) < m := by omega
  by_cases hl : s.size ≤ m
  ·
   have hE : padE s m = 0 := by unfold padE; rw [if_pos ⟨h0, h1⟩, if_pos (by omega)]
   have hl' : ¬ m < s.size := by omega
   have ed : (m : Int) - (s.size : Int) = ((m - s.size : Nat) : Int) := by omega
   have hz : s.size + (zeros (m - s.size)).size ≤ 140737488355328 := by
    rw [zeros_size]; omega
   have hr := fun w => repeat_any (m - s.size) w (by omega)
   rw [padS, hE, if_pos rfl, ← cat_two]
   show Calls _ _ _ _ fun e w' => e = .returned (.tuple #[.string (cat [s, zeros (m - s.size)]), .int .i64 0]) ∧ _
   generalize m - s.size = d at ed hz hr
   clear hE
   go_enter Try.func54, Try.ntmps54
   go_wp2_with (first
    | (go_at_call 70; refine (hr _).mono ?_; rintro e w' ⟨rfl, hb⟩; replace hB := Below.tr hB hb; clear hb)
    | (go_at_call 69; refine (all_two _ _ _ hz).mono ?_; rintro e w' ⟨rfl, hb⟩; replace hB := Below.tr hB hb; clear hb))
   go_ret2
   exact ⟨rfl, hB⟩
  ·
   have hE : padE s m = 2 := by unfold padE; rw [if_pos ⟨h0, h1⟩, if_neg (by omega)]
   rw [padS, hE, if_neg (by decide)]
   have hl' : m < s.size := by omega
   clear hE
   go_enter Try.func54, Try.ntmps54
   go_wp2
   go_ret2
   exact ⟨rfl, hB⟩
 ·
  have hE : padE s k = 1 := by unfold padE; rw [if_neg h]
  rw [padS, hE, if_neg (by decide)]
  clear hE
  by_cases h0 : k < 0
  ·
   go_enter Try.func54, Try.ntmps54
   go_wp2
   go_ret2
   exact ⟨rfl, hB⟩
  ·
   have h1 : 4096 < k := by omega
   clear h
   go_enter Try.func54, Try.ntmps54
   go_wp2
   go_ret2
   exact ⟨rfl, hB⟩
def isKind (k : Int) : Bool := decide (1 ≤ k) && decide (k ≤ 5)
def isGen (g : Int) : Bool := decide (0 ≤ g) && decide (g ≤ 1099511627776)
theorem isKind_any (k : Int) (w : World) :
  Calls Try.prog 58 #[.int .i64 k] w fun e w' => e = .returned (.bool (isKind k)) ∧ w = w' := by
 by_cases h : 1 ≤ k
 ·
  go_enter Try.func58, Try.ntmps58
  go_wp2
  go_ret
  exact ⟨ret_bool (by simp [isKind, h]), rfl⟩
 ·
  go_enter Try.func58, Try.ntmps58
  go_wp2
  go_ret
  exact ⟨ret_bool (by rw [isKind, decide_eq_false (by omega)]; rfl), rfl⟩
theorem isGen_any (g : Int) (w : World) :
  Calls Try.prog 59 #[.int .i64 g] w fun e w' => e = .returned (.bool (isGen g)) ∧ w = w' := by
 by_cases h : 0 ≤ g
 ·
  go_enter Try.func59, Try.ntmps59
  go_wp2
  go_ret
  exact ⟨ret_bool (by simp [isGen, h]), rfl⟩
 ·
  go_enter Try.func59, Try.ntmps59
  go_wp2
  go_ret
  exact ⟨ret_bool (by rw [isGen, decide_eq_false (by omega)]; rfl), rfl⟩
theorem rightP_eq (k g : Int) (b : ByteArray) : rightP k g b = (isKind k && isGen g && decide ((b.size : Int) ≤ 4000)) := by
 rw [Bool.eq_iff_iff, rightP_iff]
 simp [isKind, isGen]
 omega
theorem below_box {w w' : World} {o : Obj} (hb : Below (w.alloc o).heap.size (w.alloc o) w') : Below w.heap.size w w' :=
 ((Below.refl _ _).alloc (Nat.le_refl _) _).trans (hb.mono (by simp))
set_option maxHeartbeats 1000000 in
theorem refPageRight_any (k g : Int) (b : ByteArray) (w : World) (hs : b.size ≤ maxLen) :
  Calls Try.prog 45 #[.agg #[.int .i64 k, .int .i64 g, .string b]] w fun e w' => e = .returned (.bool (rightP k g b)) ∧ Below w.heap.size w w' := by
 unfold maxLen at hs
 have e' : Hid (rightP k g b = (decide (1 ≤ k) && decide (k ≤ 5) && decide (0 ≤ g) && decide (g ≤ 1099511627776) && decide ((b.size : Int) ≤ 4000))) := by
  show _ = _
  rw [rightP_eq]; unfold isKind isGen
  simp only [Bool.and_assoc]
 by_cases h1 : 1 ≤ k
 ·
  by_cases h2 : k ≤ 5
  ·
   by_cases h3 : 0 ≤ g
   ·
    by_cases h4 : g ≤ 1099511627776
    ·
     go_enter Try.func45, Try.ntmps45
     go_wp2
     go_ret
     exact ⟨ret_bool (by rw [e'.out]; simp [h1, h2, h3, h4]), (Below.refl _ _).alloc (Nat.le_refl _) _⟩
    ·
     go_enter Try.func45, Try.ntmps45
     go_wp2
     go_ret
     exact ⟨ret_bool (by rw [e'.out, decide_eq_false (p := g ≤ _) (by omega)]; simp), (Below.refl _ _).alloc (Nat.le_refl _) _⟩
   ·
    go_enter Try.func45, Try.ntmps45
    go_wp2
    go_ret
    exact ⟨ret_bool (by rw [e'.out, decide_eq_false (p := 0 ≤ g) (by omega)]; simp), (Below.refl _ _).alloc (Nat.le_refl _) _⟩
  ·
   go_enter Try.func45, Try.ntmps45
   go_wp2
   go_ret
   exact ⟨ret_bool (by rw [e'.out, decide_eq_false (p := k ≤ 5) (by omega)]; simp), (Below.refl _ _).alloc (Nat.le_refl _) _⟩
 ·
  go_enter Try.func45, Try.ntmps45
  go_wp2
  go_ret
  exact ⟨ret_bool (by rw [e'.out, decide_eq_false (p := 1 ≤ k) (by omega)]; simp), (Below.refl _ _).alloc (Nat.le_refl _) _⟩
set_option maxHeartbeats 400000 in
theorem get_ok (s : ByteArray) (p k : Nat) (w : World) (hs : s.size ≤ maxLen) (h1 : 1 ≤ k) (h6 : k ≤ 6) (hp : p + k ≤ s.size) :
  Calls Try.prog 55 #[.string s, .int .i64 p, .int .i64 k] w fun e w' => e = .returned (.tuple #[.int .i64 (getV s p k), .int .i64 (p + k), .int .i64 0]) ∧ w = w' := by
 unfold maxLen at hs
 have hsp : ¬ s.size < p := by omega
 have hp0 : ¬ (p : Int) < 0 := by omega
 have hk1 : 1 ≤ (k : Int) := by omega
 have hk6 : (k : Int) ≤ 6 := by omega
 have hle : ¬ (s.size : Int) - (p : Int) < (k : Int) := by omega
 go_enter Try.func55, Try.ntmps55
 go_wp2
 go_loop [9, 31] (fun n v => ∃ i : Nat, i ≤ k ∧ v = .int .i64 i ∧ n = .int .i64 (getV s p i)) (fun _ v => k - (intOf v).toNat)
 case atStart => exact ⟨0, by omega, rfl, rfl⟩
 case round =>
  obtain ⟨i, hi, rfl, rfl⟩ := hrel
  obtain ⟨g0, g1⟩ := getV_bd s p i
  have g2 := pw_le i (by omega)
  by_cases hlt : i < k
  ·
   have HS : Hid (getV s p (i + 1) = getV s p i * 256 + (s[p + i].toNat : Int)) := getV_succ s p i (by omega)
   have ho := or_byte (getV s p i) s[p + i] g0 (by omega)
   go_wp2
   go_round
   case rel => exact ⟨i + 1, by omega, by go_num, by rw [HS.out]⟩
   case measure => simp [intOf]; omega
  ·
   obtain rfl : i = k := by omega
   go_wp2
   go_ret3
   exact ⟨rfl, rfl⟩
set_option maxHeartbeats 1000000 in
theorem get_arg (s : ByteArray) (p k : Int) (w : World) (hs : s.size ≤ maxLen) (h : ¬ (1 ≤ k ∧ k ≤ 6 ∧ 0 ≤ p ∧ p ≤ s.size)) :
  Calls Try.prog 55 #[.string s, .int .i64 p, .int .i64 k] w fun e w' => e = .returned (.tuple #[.int .i64 0, .int .i64 0, .int .i64 1]) ∧ w = w' := by
 unfold maxLen at hs
 by_cases h1 : 1 ≤ k
 ·
  by_cases h6 : k ≤ 6
  ·
   by_cases h0 : p < 0
   ·
    clear h
    go_enter Try.func55, Try.ntmps55
    go_wp2
    go_ret3
    exact ⟨rfl, rfl⟩
   ·
    obtain ⟨q, rfl⟩ : ∃ q : Nat, p = q := ⟨p.toNat, by omega⟩
    have hq : s.size < q := by omega
    clear h
    go_enter Try.func55, Try.ntmps55
    go_wp2
    go_ret3
    exact ⟨rfl, rfl⟩
  ·
   clear h
   go_enter Try.func55, Try.ntmps55
   go_wp2
   go_ret3
   exact ⟨rfl, rfl⟩
 ·
  clear h
  go_enter Try.func55, Try.ntmps55
  go_wp2
  go_ret3
  exact ⟨rfl, rfl⟩
set_option maxHeartbeats 400000 in
theorem get_short (s : ByteArray) (p k : Nat) (w : World) (hs : s.size ≤ maxLen) (h1 : 1 ≤ k) (h6 : k ≤ 6) (hp : p ≤ s.size) (hsh : (s.size : Int) - (p : Int) < (k : Int)) :
  Calls Try.prog 55 #[.string s, .int .i64 p, .int .i64 k] w fun e w' => e = .returned (.tuple #[.int .i64 0, .int .i64 0, .int .i64 3]) ∧ w = w' := by
 unfold maxLen at hs
 have hsp : ¬ s.size < p := by omega
 have hp0 : ¬ (p : Int) < 0 := by omega
 have hk1 : 1 ≤ (k : Int) := by omega
 have hk6 : (k : Int) ≤ 6 := by omega
 go_enter Try.func55, Try.ntmps55
 go_wp2
 go_ret3
 exact ⟨rfl, rfl⟩
theorem get_any (s : ByteArray) (p k : Int) (w : World) (hs : s.size ≤ maxLen) :
  Calls Try.prog 55 #[.string s, .int .i64 p, .int .i64 k] w fun e w' => e = .returned (.tuple #[.int .i64 (getR s p k), .int .i64 (getT s p k), .int .i64 (getE s p k)]) ∧ w = w' := by
 by_cases h : 1 ≤ k ∧ k ≤ 6 ∧ 0 ≤ p ∧ p ≤ s.size
 ·
  obtain ⟨h1, h6, h0, hp⟩ := h
  obtain ⟨q, rfl⟩ : ∃ q : Nat, p = q := ⟨p.toNat, by omega⟩
  obtain ⟨m, rfl⟩ : ∃ m : Nat, k = m := ⟨k.toNat, by omega⟩
  by_cases h2 : (s.size : Int) - (q : Int) < (m : Int)
  ·
   have e : getE s q m = 3 := by unfold getE; rw [if_pos ⟨h1, h6, h0, hp⟩, if_pos h2]
   rw [getR, getT, e, if_neg (by decide), if_neg (by decide)]
   exact get_short s q m w hs (by omega) (by omega) (by omega) h2
  ·
   have e : getE s q m = 0 := by unfold getE; rw [if_pos ⟨h1, h6, h0, hp⟩, if_neg h2]
   rw [getR, getT, e, if_pos rfl, if_pos rfl]
   exact get_ok s q m w hs (by omega) (by omega) (by omega)
 ·
  have e : getE s p k = 1 := by unfold getE; rw [if_neg h]
  rw [getR, getT, e, if_neg (by decide), if_neg (by decide)]
  exact get_arg s p k w hs h
set_option maxHeartbeats 400000 in
theorem cut_any (s : ByteArray) (p : Int) (w : World) (hs : s.size ≤ maxLen) :
  Calls Try.prog 74 #[.string s, .int .i64 p] w fun e w' => e = .returned (.tuple #[.string (cutS s p), .int .i64 (cutT s p), .int .i64 (cutE s p)]) ∧ w = w' := by
 have hs' := hs
 unfold maxLen at hs
 by_cases h : getE s p 2 = 0
 ·
  obtain ⟨-, -, h0, hp⟩ := getE_ok h
  obtain ⟨q, rfl⟩ : ∃ q : Nat, p = q := ⟨p.toNat, by omega⟩
  obtain ⟨g0, g1⟩ := getV_bd s q 2
  have g2 : pw 2 = 65536 := by decide
  have eR : getR s q 2 = getV s q 2 := by rw [getR, if_pos h]; rfl
  have eT : getT s q 2 = q + 2 := by rw [getT, if_pos h]
  obtain ⟨v, hv⟩ : ∃ v : Nat, getV s q 2 = v := ⟨(getV s q 2).toNat, by omega⟩
  have hcE : cutE s q = if (s.size : Int) - ((q : Int) + 2) < (v : Int) then 3 else 0 := by rw [cutE, if_pos h]; simp [hv]
  rw [hv] at eR g0 g1
  by_cases hsh : (s.size : Int) - ((q : Int) + 2) < (v : Int)
  ·
   rw [if_pos hsh] at hcE
   rw [cutS, cutT, hcE, if_neg (by decide), if_neg (by decide)]
   clear hcE hv
   go_enter Try.func74, Try.ntmps74
   go_wp2_with (go_at_call 55; refine (get_any _ _ _ _ hs').mono ?_; rintro e w' ⟨rfl, rfl⟩)
   go_ret3
   exact ⟨rfl, rfl⟩
  ·
   rw [if_neg hsh] at hcE
   rw [cutS, cutT, hcE, if_pos rfl, if_pos rfl]
   have e1 : ((q : Int) + 2).toNat = q + 2 := by omega
   have e2 : ((q : Int) + 2 + getV s q 2).toNat = q + 2 + v := by rw [hv]; omega
   have e3 : ((q : Int).toNat) = q := rfl
   rw [e3, e1, e2, hv]
   obtain ⟨f, hf⟩ : ∃ f : Nat, q + 2 = f := ⟨_, rfl⟩
   have hf' : (q : Int) + 2 = f := by omega
   have hsh' : f + v ≤ s.size := by omega
   rw [hf'] at eT
   rw [hf, hf']
   have hv' : v < 65536 := by omega
   clear hcE hv e2 e1 e3 hsh hp hf hf' h0 g0 g1 g2
   go_enter Try.func74, Try.ntmps74
   go_wp2_with (go_at_call 55; refine (get_any _ _ _ _ hs').mono ?_; rintro e w' ⟨rfl, rfl⟩)
   go_ret3
   exact ⟨rfl, rfl⟩
 ·
  have hcE : cutE s p = getE s p 2 := by rw [cutE, if_neg h]
  rw [cutS, cutT, hcE, if_neg h, if_neg h]
  have hne : (getE s p 2 != 0) = true := by simpa using h
  clear h hcE
  go_enter Try.func74, Try.ntmps74
  go_wp2_with (go_at_call 55; refine (get_any _ _ _ _ hs').mono ?_; rintro e w' ⟨rfl, rfl⟩)
  go_ret3
  exact ⟨rfl, rfl⟩
theorem set3_cells {w1 : World} {h : Nat} {v0 v1 v2 u0 u1 u2 : Value} (q0 : w1.cell? ⟨h, 0, none⟩ = some u0) (q1 : w1.cell? ⟨h, 1, none⟩ = some u1) (q2 : w1.cell? ⟨h, 2, none⟩ = some u2) :
  (((w1.setCell ⟨h, 0, none⟩ v0).setCell ⟨h, 1, none⟩ v1).setCell ⟨h, 2, none⟩ v2).cell? ⟨h, 0, none⟩ = some v0 ∧
  (((w1.setCell ⟨h, 0, none⟩ v0).setCell ⟨h, 1, none⟩ v1).setCell ⟨h, 2, none⟩ v2).cell? ⟨h, 1, none⟩ = some v1 ∧
  (((w1.setCell ⟨h, 0, none⟩ v0).setCell ⟨h, 1, none⟩ v1).setCell ⟨h, 2, none⟩ v2).cell? ⟨h, 2, none⟩ = some v2 := by
 refine ⟨?_, ?_, ?_⟩
 ·
  rw [World.cell?_setCell_other _ _ _ _ (fun hh => by cases hh), World.cell?_setCell_other _ _ _ _ (fun hh => by cases hh)]
  exact World.cell?_setCell_same _ _ _ q0
 ·
  rw [World.cell?_setCell_other _ _ _ _ (fun hh => by cases hh)]
  refine World.cell?_setCell_same _ _ _ (u := u1) ?_
  rw [World.cell?_setCell_other _ _ _ _ (fun hh => by cases hh)]
  exact q1
 ·
  refine World.cell?_setCell_same _ _ _ (u := u2) ?_
  rw [World.cell?_setCell_other _ _ _ _ (fun hh => by cases hh), World.cell?_setCell_other _ _ _ _ (fun hh => by cases hh)]
  exact q2
theorem below_set3 {w w1 : World} {h : Nat} {v0 v1 v2 : Value} (hB : Below w.heap.size w w1) (hh : w.heap.size ≤ h) :
  Below w.heap.size w (((w1.setCell ⟨h, 0, none⟩ v0).setCell ⟨h, 1, none⟩ v1).setCell ⟨h, 2, none⟩ v2) :=
 ((hB.setCell (p := ⟨h, 0, none⟩) hh _).setCell (p := ⟨h, 1, none⟩) hh _).setCell (p := ⟨h, 2, none⟩) hh _
theorem Box3.alloc {w : World} {h : Nat} {v0 v1 v2 : Value} (b : Box3 w h v0 v1 v2) (o : Obj) : Box3 (w.alloc o) h v0 v1 v2 :=
 b.below ((Below.refl _ _).alloc (Nat.le_refl _) _)
set_option maxHeartbeats 400000 in
theorem parts_ok (t : ByteArray) (m : Nat) (w : World) (hm : m ≤ 4000) (ht : t.size = 9 + m) (hv : getV t 7 2 = m) :
  Calls Try.prog 57 #[.string t] w fun e w' => e = .returned (.agg #[.int .i64 (getV t 0 1), .int .i64 (getV t 1 6), .string (t.extract 9 (9 + m))]) ∧ Below w.heap.size w w' := by
 have hs : t.size ≤ maxLen := by unfold maxLen; omega
 have c1 : ∀ W, Calls Try.prog 55 #[.string t, .int .i64 0, .int .i64 1] W fun e w' => ∃ v, e = .returned (.tuple #[.int .i64 (getV t 0 1), .int .i64 1, .int .i64 v]) ∧ W = w' := by
  intro W
  have e : getE t 0 1 = 0 := getE_zero ⟨by omega, by omega, by omega, by omega⟩
  refine (get_any t 0 1 W hs).mono fun ee w' ⟨he, hb⟩ => ⟨0, ?_, hb⟩
  rw [he, getR, getT, e]; rfl
 have c2 : ∀ W, Calls Try.prog 55 #[.string t, .int .i64 1, .int .i64 6] W fun e w' => ∃ v, e = .returned (.tuple #[.int .i64 (getV t 1 6), .int .i64 7, .int .i64 v]) ∧ W = w' := by
  intro W
  have e : getE t 1 6 = 0 := getE_zero ⟨by omega, by omega, by omega, by omega⟩
  refine (get_any t 1 6 W hs).mono fun ee w' ⟨he, hb⟩ => ⟨0, ?_, hb⟩
  rw [he, getR, getT, e]; rfl
 have c3 : ∀ W, Calls Try.prog 74 #[.string t, .int .i64 7] W fun e w' => ∃ u v, e = .returned (.tuple #[.string (t.extract 9 (9 + m)), .int .i64 u, .int .i64 v]) ∧ W = w' := by
  intro W
  have e : getE t 7 2 = 0 := getE_zero ⟨by omega, by omega, by omega, by omega⟩
  have hv' : getV t (7 : Int).toNat 2 = m := hv
  have e2 : cutE t 7 = 0 := by
   rw [cutE, if_pos e, hv', if_neg (by omega)]
  have e3 : cutS t 7 = t.extract 9 (9 + m) := by
   rw [cutS, if_pos e2, hv']
   have t1 : ((7 : Int) + 2).toNat = 9 := rfl
   have t2 : ((7 : Int) + 2 + (m : Int)).toNat = 9 + m := by omega
   rw [t1, t2]
  refine (cut_any t 7 W hs).mono fun ee w' ⟨he, hb⟩ => ⟨cutT t 7, 0, ?_, hb⟩
  rw [he, e2, e3]
 obtain ⟨K, hK⟩ : ∃ K, K = getV t 0 1 := ⟨_, rfl⟩
 obtain ⟨G, hG⟩ : ∃ G, G = getV t 1 6 := ⟨_, rfl⟩
 obtain ⟨B, hB⟩ : ∃ B, B = t.extract 9 (9 + m) := ⟨_, rfl⟩
 rw [← hK] at c1 ⊢
 rw [← hG] at c2 ⊢
 rw [← hB] at c3 ⊢
 clear hK hG hB hv ht hs
 have tok1 : True := trivial
 go_enter Try.func57, Try.ntmps57
 go_wp2_with (first
  | (go_at_call 55; have _t := tok1; refine (c1 _).mono ?_; rintro e w2 ⟨v1, rfl, rfl⟩; clear tok1)
  | (go_at_call 55; refine (c2 _).mono ?_; rintro e w2 ⟨v2, rfl, rfl⟩)
  | (go_at_call 74; refine (c3 _).mono ?_; rintro e w2 ⟨v3, v4, rfl, rfl⟩))
 exact bodyPost_ret (v := .agg #[.int .i64 K, .int .i64 G, .string B]) (by simp [results, Try.results57, go_sem]) rfl ⟨rfl, (Below.refl _ _).alloc (Nat.le_refl _) _⟩
theorem str_some {a : ByteArray} (h : ¬ a = ⟨#[]⟩) : a.toList.isEmpty = false := by
 rw [Bool.eq_false_iff]
 intro hh
 have h3 : (⟨#[]⟩ : ByteArray).toList = [] := by simp
 have h2 := str_eq_false h
 rw [List.isEmpty_iff.1 hh, h3] at h2
 exact absurd h2 (by decide)
theorem openE_front {F : ByteArray} (hF : F.size = 4096) (hn : fN F ≤ 4000) :
  openE (F.extract 0 (13 + fN F)) = (if fSealed F then 0 else 41) ∧ (fSealed F → openS (F.extract 0 (13 + fN F)) = F.extract 0 (9 + fN F)) := by
 have hz : (F.extract 0 (13 + fN F)).size = 13 + fN F := by rw [extract_size' _ _ _ (by omega) (by omega)]; omega
 have hh : headS (F.extract 0 (13 + fN F)) = F.extract 0 (9 + fN F) := by
  unfold headS
  rw [hz]
  apply bytes_ext
  rw [extract_data', extract_data', extract_data', List.drop_zero, List.drop_zero, List.take_take]
  congr 1
  omega
 have hk : fSealed F ↔ tailS (F.extract 0 (13 + fN F)) = le4S (ofS (headS (F.extract 0 (13 + fN F)))) := by
  rw [← sealed_head _ (by rw [hz]; omega), hh]
  exact fSealed_iff F
 have he : openE (F.extract 0 (13 + fN F)) = (if fSealed F then 0 else 41) := by
  unfold openE
  rw [if_neg (by rw [hz]; omega)]
  by_cases h : fSealed F
  ·
   rw [if_pos h, if_pos (hk.1 h)]
  ·
   rw [if_neg h, if_neg (fun hh => h (hk.2 hh))]
 refine ⟨he, fun h => ?_⟩
 rw [openS, he, if_pos h, if_pos rfl, hh]
theorem getR_size {F : ByteArray} (hF : F.size = 4096) : getR F 7 2 = fN F := by
 have e : getE F 7 2 = 0 := getE_zero ⟨by omega, by omega, by omega, by omega⟩
 rw [getR, if_pos e]
 show getV F 7 2 = _
 have := (getV_bd F 7 2).1
 unfold fN; omega
def fullK (F : ByteArray) : Int := if fE F = 0 then fK F else 0
def fullG (F : ByteArray) : Int := if fE F = 0 then fG F else 0
def fullB (F : ByteArray) : ByteArray := if fE F = 0 then fB F else ⟨#[]⟩
set_option maxHeartbeats 2000000 in
theorem pageGet_long (s : ByteArray) (w : World) (hs : s.size ≤ maxLen) (h : ¬ s.size ≤ 4096) :
  Calls Try.prog 49 #[.string s] w fun e w' => e = .returned (.tuple #[.agg #[.int .i64 0, .int .i64 0, .string ⟨#[]⟩], .int .i64 1]) ∧ Below w.heap.size w w' := by
 have c1 : ∀ W, Calls Try.prog 54 #[.string s, .int .i64 4096] W fun e w' => ∃ v, e = .returned (.tuple #[.string v, .int .i64 2]) ∧ Below W.heap.size W w' := by
  intro W
  have e : padE s 4096 = 2 := by
   unfold padE
   rw [if_pos ⟨by omega, by omega⟩, if_neg (by omega)]
  refine (pad_any s 4096 W hs).mono fun ee w' ⟨he, hb⟩ => ⟨padS s 4096, ?_, hb⟩
  rw [he, e]
 go_enter Try.func49, Try.ntmps49
 go_wp2_with (first
  | (go_at_call 54; refine (c1 _).mono ?_; rintro e w1 ⟨v, rfl, hb⟩; obtain ⟨⟨q0, q1, q2⟩, f0, f1, f2⟩ := (box3_new _ _ _ _ _).below hb; have hB := below_box hb; clear hb))
 obtain ⟨z0, z1, z2⟩ := set3_cells (v0 := .int .i64 0) (v1 := .int .i64 0) (v2 := .string ⟨#[]⟩) q0 q1 q2
 exact bodyPost_ret (v := .tuple #[.agg #[.int .i64 0, .int .i64 0, .string ⟨#[]⟩], .int .i64 1]) (by simp [results, Try.results49, go_sem, z0, z1, z2]) rfl ⟨rfl, below_set3 hB (Nat.le_refl _)⟩
set_option maxHeartbeats 4000000 in
theorem pageGet_short (s : ByteArray) (w : World) (h : s.size ≤ 4096) :
  Calls Try.prog 49 #[.string s] w fun e w' => e = .returned (.tuple #[.agg #[.int .i64 (fullK (fullS s)), .int .i64 (fullG (fullS s)), .string (fullB (fullS s))], .int .i64 (fE (fullS s))]) ∧ Below w.heap.size w w' := by
 have hs : s.size ≤ maxLen := by unfold maxLen; omega
 have hF := fullS_size h
 obtain ⟨F, hFe⟩ : ∃ F, F = fullS s := ⟨_, rfl⟩
 rw [← hFe] at hF ⊢
 have c1 : ∀ W, Calls Try.prog 54 #[.string s, .int .i64 4096] W fun e w' => e = .returned (.tuple #[.string F, .int .i64 0]) ∧ Below W.heap.size W w' := by
  intro W
  have e : padE s 4096 = 0 := by
   unfold padE
   rw [if_pos ⟨by omega, by omega⟩, if_pos (by omega)]
  refine (pad_any s 4096 W hs).mono fun ee w' ⟨he, hb⟩ => ⟨?_, hb⟩
  rw [he, e, hFe, padS, if_pos e]; rfl
 have hFm : F.size ≤ maxLen := by unfold maxLen; omega
 obtain ⟨n, hn⟩ : ∃ n, n = fN F := ⟨_, rfl⟩
 have c2 : ∀ W, Calls Try.prog 55 #[.string F, .int .i64 7, .int .i64 2] W fun e w' => ∃ v u, e = .returned (.tuple #[.int .i64 n, .int .i64 v, .int .i64 u]) ∧ W = w' := by
  intro W
  refine (get_any F 7 2 W hFm).mono fun ee w' ⟨he, hb⟩ => ⟨getT F 7 2, getE F 7 2, ?_, hb⟩
  rw [he, getR_size hF, hn]
 by_cases h1 : 4000 < n
 ·
  have hE : Hid (fE F = 4) := by show _ = _; unfold fE; rw [if_pos (by omega)]
  have hK : Hid (fullK F = 0) := by show _ = _; unfold fullK; rw [hE.out]; rfl
  have hG : Hid (fullG F = 0) := by show _ = _; unfold fullG; rw [hE.out]; rfl
  have hBB : Hid (fullB F = ⟨#[]⟩) := by show _ = _; unfold fullB; rw [hE.out]; rfl
  have h1' : (4000 : Int) < n := by omega
  clear hF hn hFe
  go_enter Try.func49, Try.ntmps49
  go_wp2_with (first
   | (go_at_call 54; refine (c1 _).mono ?_; rintro e w1 ⟨rfl, hb⟩; obtain ⟨⟨q0, q1, q2⟩, f0, f1, f2⟩ := (box3_new _ _ _ _ _).below hb; have hB := below_box hb; clear hb)
   | (go_at_call 55; refine (c2 _).mono ?_; rintro e w2 ⟨v, u, rfl, rfl⟩))
  obtain ⟨z0, z1, z2⟩ := set3_cells (v0 := .int .i64 0) (v1 := .int .i64 0) (v2 := .string ⟨#[]⟩) q0 q1 q2
  exact bodyPost_ret (v := .tuple #[.agg #[.int .i64 0, .int .i64 0, .string ⟨#[]⟩], .int .i64 4]) (by simp [results, Try.results49, go_sem, z0, z1, z2]) rfl ⟨by rw [hE.out, hK.out, hG.out, hBB.out], below_set3 hB (Nat.le_refl _)⟩
 ·
  obtain ⟨o1, o2⟩ := openE_front hF (by omega)
  rw [← hn] at o1 o2
  have hT : (F.extract 0 (13 + n)).size ≤ maxLen := by rw [ByteArray.size_extract]; unfold maxLen; omega
  have hn4 : n ≤ 4000 := by omega
  have n13 : 9 + n + 4 = 13 + n := by omega
  by_cases h2 : fSealed F
  ·
   have o3 := o2 h2
   rw [if_pos h2] at o1
   obtain ⟨t, ht⟩ : ∃ t, t = F.extract 0 (9 + n) := ⟨_, rfl⟩
   have c3 : ∀ W, Calls Try.prog 56 #[.string (F.extract 0 (9 + n + 4))] W fun e w' => e = .returned (.tuple #[.string t, .int .i64 0]) ∧ Below W.heap.size W w' := by
    intro W
    rw [n13]
    refine (open_any _ W hT).mono fun ee w' ⟨he, hb⟩ => ⟨?_, hb⟩
    rw [he, o1, o3, ht]
   obtain ⟨K, hKe⟩ : ∃ K, K = fK F := ⟨_, rfl⟩
   obtain ⟨G, hGe⟩ : ∃ G, G = fG F := ⟨_, rfl⟩
   obtain ⟨B, hBe⟩ : ∃ B, B = fB F := ⟨_, rfl⟩
   have c4 : ∀ W, Calls Try.prog 57 #[.string t] W fun e w' => e = .returned (.agg #[.int .i64 K, .int .i64 G, .string B]) ∧ Below W.heap.size W w' := by
    intro W
    have tz : t.size = 9 + n := by rw [ht, extract_size' _ _ _ (by omega) (by omega)]; omega
    have tv : getV t 7 2 = n := by
     rw [ht, getV_front _ _ _ _ (by omega), hn]
     have := (getV_bd F 7 2).1
     unfold fN; omega
    refine (parts_ok t n W hn4 tz tv).mono fun ee w' ⟨he, hb⟩ => ⟨?_, hb⟩
    rw [he, ht, getV_front _ _ _ _ (by omega), getV_front _ _ _ _ (by omega), hKe, hGe, hBe]
    have : (F.extract 0 (9 + n)).extract 9 (9 + n) = fB F := by
     unfold fB
     rw [← hn]
     apply bytes_ext
     rw [extract_data', extract_data', extract_data', List.drop_zero, Nat.sub_zero, List.drop_take, List.take_take, Nat.min_self]
    rw [this]; rfl
   have c5 := fun W => isKind_any K W
   have c6 := fun W => isGen_any G W
   obtain ⟨R, hRe⟩ : ∃ R, R = trimS (fRest F) := ⟨_, rfl⟩
   have c7 : ∀ W, Calls Try.prog 60 #[.string (F.extract (9 + n + 4) F.size)] W fun e w' => e = .returned (.string R) ∧ W = w' := by
    intro W
    rw [n13]
    have := trim_any (fRest F) W (by unfold fRest; rw [ByteArray.size_extract]; unfold maxLen; omega)
    rw [← hRe] at this
    unfold fRest at this
    rwa [← hn] at this
   have hG0 : 0 ≤ G := by rw [hGe]; exact (getV_bd F 1 6).1
   obtain ⟨x, hx⟩ : ∃ x, x = isKind K := ⟨_, rfl⟩
   obtain ⟨y, hy⟩ : ∃ y, y = isGen G := ⟨_, rfl⟩
   have hx' : x = true ↔ (1 ≤ K ∧ K ≤ 5) := by rw [hx]; simp [isKind]
   have hy' : y = true ↔ G ≤ 1099511627776 := by rw [hy]; simp [isGen, hG0]
   rw [← hx] at c5
   rw [← hy] at c6
   have hFE : fE F = if x = true then (if y = true ∧ R = ⟨#[]⟩ then 0 else 4) else 40 := by
    unfold fE
    rw [if_neg (by omega), if_pos h2, ← hKe, ← hGe, ← hRe]
    by_cases a : x = true
    ·
     rw [if_pos (hx'.1 a), if_pos a]
     by_cases b : y = true
     ·
      simp only [b, true_and, hy'.1 b]
     ·
      rw [if_neg (fun hh => b (hy'.2 hh.1)), if_neg (fun hh => b hh.1)]
    ·
     rw [if_neg (fun hh => a (hx'.2 hh)), if_neg a]
   have hB0 : Below w.heap.size w w := Below.refl _ _
   have hFz : Hid (F.size = 4096) := hF
   have hF4 : 4096 ≤ F.size := by omega
   have hFu : F.size ≤ 4096 := by omega
   clear hF hn hFe o1 o2 o3 ht hRe hx hy hx' hy' n13
   have hKF : fullK F = if (if x = true then (if y = true ∧ R = ⟨#[]⟩ then (0 : Int) else 4) else 40) = 0 then K else 0 := by unfold fullK; rw [hFE, hKe]
   have hGF : fullG F = if (if x = true then (if y = true ∧ R = ⟨#[]⟩ then (0 : Int) else 4) else 40) = 0 then G else 0 := by unfold fullG; rw [hFE, hGe]
   have hBF : fullB F = if (if x = true then (if y = true ∧ R = ⟨#[]⟩ then (0 : Int) else 4) else 40) = 0 then B else ⟨#[]⟩ := by unfold fullB; rw [hFE, hBe]
   rw [hFE, hKF, hGF, hBF]
   clear hFE hKF hGF hBF hKe hGe hBe h2 hT
   obtain ⟨rE, hrE⟩ : ∃ r, r = (if x = true then (if y = true ∧ R = ⟨#[]⟩ then (0 : Int) else 4) else 40) := ⟨_, rfl⟩
   rw [← hrE]
   obtain ⟨rK, hrK⟩ : ∃ r, r = if rE = 0 then K else 0 := ⟨_, rfl⟩
   obtain ⟨rG, hrG⟩ : ∃ r, r = if rE = 0 then G else 0 := ⟨_, rfl⟩
   obtain ⟨rB, hrB⟩ : ∃ r, r = if rE = 0 then B else ⟨#[]⟩ := ⟨_, rfl⟩
   rw [← hrK, ← hrG, ← hrB]
   have hFm' : F.size ≤ 9223372036854775807 := hFm
   cases x
   ·
    have e1 : rE = 40 := by rw [hrE]; simp
    have e2 : rK = 0 := by rw [hrK, e1]; rfl
    have e3 : rG = 0 := by rw [hrG, e1]; rfl
    have e4 : rB = ⟨#[]⟩ := by rw [hrB, e1]; rfl
    rw [e1, e2, e3, e4]
    clear hrE hrK hrG hrB e1 e2 e3 e4
    go_enter Try.func49, Try.ntmps49
    go_wp2_with (first
     | (go_at_call 54; refine (c1 _).mono ?_; rintro e w1 ⟨rfl, hb⟩; have Q := (box3_new _ _ _ _ _).below hb; have hB := below_box hb; clear hb)
     | (go_at_call 55; refine (c2 _).mono ?_; rintro e w2 ⟨v, u, rfl, rfl⟩)
     | (go_at_call 56; refine (c3 _).mono ?_; rintro e w3 ⟨rfl, hb⟩; replace Q := Q.below hb; replace hB := Below.tr hB hb; clear hb)
     | (go_at_call 57; refine (c4 _).mono ?_; rintro e w4 ⟨rfl, hb⟩; replace Q := (Q.below hb).alloc (.cells #[.int .i64 K, .int .i64 G, .string B] 78); obtain ⟨⟨q0, q1, q2⟩, f0, f1, f2⟩ := Q; replace hB := Below.tr hB hb; clear hb)
     | (go_at_call 58; refine (c5 _).mono ?_; rintro e w5 ⟨rfl, rfl⟩)
     | (go_at_call 59; refine (c6 _).mono ?_; rintro e w6 ⟨rfl, rfl⟩)
     | (go_at_call 60; refine (c7 _).mono ?_; rintro e w7 ⟨rfl, rfl⟩))
    obtain ⟨z0, z1, z2⟩ := set3_cells (v0 := .int .i64 0) (v1 := .int .i64 0) (v2 := .string ⟨#[]⟩) q0 q1 q2
    exact bodyPost_ret (v := .tuple #[.agg #[.int .i64 0, .int .i64 0, .string ⟨#[]⟩], .int .i64 40]) (by simp [results, Try.results49, go_sem, z0, z1, z2]) rfl ⟨rfl, below_set3 (hB.alloc hB.size _) (Nat.le_refl _)⟩
   ·
    cases y
    ·
     have e1 : rE = 4 := by rw [hrE]; simp
     have e2 : rK = 0 := by rw [hrK, e1]; rfl
     have e3 : rG = 0 := by rw [hrG, e1]; rfl
     have e4 : rB = ⟨#[]⟩ := by rw [hrB, e1]; rfl
     rw [e1, e2, e3, e4]
     clear hrE hrK hrG hrB e1 e2 e3 e4
     go_enter Try.func49, Try.ntmps49
     go_wp2_with (first
      | (go_at_call 54; refine (c1 _).mono ?_; rintro e w1 ⟨rfl, hb⟩; have Q := (box3_new _ _ _ _ _).below hb; have hB := below_box hb; clear hb)
      | (go_at_call 55; refine (c2 _).mono ?_; rintro e w2 ⟨v, u, rfl, rfl⟩)
      | (go_at_call 56; refine (c3 _).mono ?_; rintro e w3 ⟨rfl, hb⟩; replace Q := Q.below hb; replace hB := Below.tr hB hb; clear hb)
      | (go_at_call 57; refine (c4 _).mono ?_; rintro e w4 ⟨rfl, hb⟩; replace Q := (Q.below hb).alloc (.cells #[.int .i64 K, .int .i64 G, .string B] 78); obtain ⟨⟨q0, q1, q2⟩, f0, f1, f2⟩ := Q; replace hB := Below.tr hB hb; clear hb)
      | (go_at_call 58; refine (c5 _).mono ?_; rintro e w5 ⟨rfl, rfl⟩)
      | (go_at_call 59; refine (c6 _).mono ?_; rintro e w6 ⟨rfl, rfl⟩)
      | (go_at_call 60; refine (c7 _).mono ?_; rintro e w7 ⟨rfl, rfl⟩))
     obtain ⟨z0, z1, z2⟩ := set3_cells (v0 := .int .i64 0) (v1 := .int .i64 0) (v2 := .string ⟨#[]⟩) q0 q1 q2
     exact bodyPost_ret (v := .tuple #[.agg #[.int .i64 0, .int .i64 0, .string ⟨#[]⟩], .int .i64 4]) (by simp [results, Try.results49, go_sem, z0, z1, z2]) rfl ⟨rfl, below_set3 (hB.alloc hB.size _) (Nat.le_refl _)⟩
    ·
     by_cases hR : R = ⟨#[]⟩
     ·
      have e1 : rE = 0 := by rw [hrE, hR]; simp
      have e2 : rK = K := by rw [hrK, e1]; rfl
      have e3 : rG = G := by rw [hrG, e1]; rfl
      have e4 : rB = B := by rw [hrB, e1]; rfl
      rw [e1, e2, e3, e4]
      clear hrE hrK hrG hrB e1 e2 e3 e4
      subst hR
      go_enter Try.func49, Try.ntmps49
      go_wp2_with (first
       | (go_at_call 54; refine (c1 _).mono ?_; rintro e w1 ⟨rfl, hb⟩; have Q := (box3_new _ _ _ _ _).below hb; have hB := below_box hb; clear hb)
       | (go_at_call 55; refine (c2 _).mono ?_; rintro e w2 ⟨v, u, rfl, rfl⟩)
       | (go_at_call 56; refine (c3 _).mono ?_; rintro e w3 ⟨rfl, hb⟩; replace Q := Q.below hb; replace hB := Below.tr hB hb; clear hb)
       | (go_at_call 57; refine (c4 _).mono ?_; rintro e w4 ⟨rfl, hb⟩; replace Q := (Q.below hb).alloc (.cells #[.int .i64 K, .int .i64 G, .string B] 78); obtain ⟨⟨q0, q1, q2⟩, f0, f1, f2⟩ := Q; replace hB := Below.tr hB hb; clear hb)
       | (go_at_call 58; refine (c5 _).mono ?_; rintro e w5 ⟨rfl, rfl⟩)
       | (go_at_call 59; refine (c6 _).mono ?_; rintro e w6 ⟨rfl, rfl⟩)
       | (go_at_call 60; refine (c7 _).mono ?_; rintro e w7 ⟨rfl, rfl⟩))
      obtain ⟨z0, z1, z2⟩ := set3_cells (v0 := .int .i64 K) (v1 := .int .i64 G) (v2 := .string B) q0 q1 q2
      exact bodyPost_ret (v := .tuple #[.agg #[.int .i64 K, .int .i64 G, .string B], .int .i64 0]) (by simp [results, Try.results49, go_sem, z0, z1, z2]) rfl ⟨rfl, below_set3 (hB.alloc hB.size _) (Nat.le_refl _)⟩
     ·
      have e1 : rE = 4 := by rw [hrE]; simp [hR]
      have e2 : rK = 0 := by rw [hrK, e1]; rfl
      have e3 : rG = 0 := by rw [hrG, e1]; rfl
      have e4 : rB = ⟨#[]⟩ := by rw [hrB, e1]; rfl
      rw [e1, e2, e3, e4]
      clear hrE hrK hrG hrB e1 e2 e3 e4
      have hR1 := str_some hR
      go_enter Try.func49, Try.ntmps49
      go_wp2_with (first
       | (go_at_call 54; refine (c1 _).mono ?_; rintro e w1 ⟨rfl, hb⟩; have Q := (box3_new _ _ _ _ _).below hb; have hB := below_box hb; clear hb)
       | (go_at_call 55; refine (c2 _).mono ?_; rintro e w2 ⟨v, u, rfl, rfl⟩)
       | (go_at_call 56; refine (c3 _).mono ?_; rintro e w3 ⟨rfl, hb⟩; replace Q := Q.below hb; replace hB := Below.tr hB hb; clear hb)
       | (go_at_call 57; refine (c4 _).mono ?_; rintro e w4 ⟨rfl, hb⟩; replace Q := (Q.below hb).alloc (.cells #[.int .i64 K, .int .i64 G, .string B] 78); obtain ⟨⟨q0, q1, q2⟩, f0, f1, f2⟩ := Q; replace hB := Below.tr hB hb; clear hb)
       | (go_at_call 58; refine (c5 _).mono ?_; rintro e w5 ⟨rfl, rfl⟩)
       | (go_at_call 59; refine (c6 _).mono ?_; rintro e w6 ⟨rfl, rfl⟩)
       | (go_at_call 60; refine (c7 _).mono ?_; rintro e w7 ⟨rfl, rfl⟩))
      obtain ⟨z0, z1, z2⟩ := set3_cells (v0 := .int .i64 0) (v1 := .int .i64 0) (v2 := .string ⟨#[]⟩) q0 q1 q2
      exact bodyPost_ret (v := .tuple #[.agg #[.int .i64 0, .int .i64 0, .string ⟨#[]⟩], .int .i64 4]) (by simp [results, Try.results49, go_sem, z0, z1, z2]) rfl ⟨rfl, below_set3 (hB.alloc hB.size _) (Nat.le_refl _)⟩
  ·
   rw [if_neg h2] at o1
   have c3 : ∀ W, Calls Try.prog 56 #[.string (F.extract 0 (9 + n + 4))] W fun e w' => ∃ v, e = .returned (.tuple #[.string v, .int .i64 41]) ∧ Below W.heap.size W w' := by
    intro W
    rw [n13]
    refine (open_any _ W hT).mono fun ee w' ⟨he, hb⟩ => ⟨openS (F.extract 0 (13 + n)), ?_, hb⟩
    rw [he, o1]
   have hE : fE F = 41 := by unfold fE; rw [if_neg (by omega), if_neg h2]
   rw [show fullK F = 0 by unfold fullK; rw [hE]; rfl, show fullG F = 0 by unfold fullG; rw [hE]; rfl, show fullB F = ⟨#[]⟩ by unfold fullB; rw [hE]; rfl, hE]
   have hF4 : 4096 ≤ F.size := by omega
   have hFu : F.size ≤ 4096 := by omega
   have hFm' : F.size ≤ 9223372036854775807 := hFm
   clear hF hn hFe o1 o2 h2 hT hE n13
   go_enter Try.func49, Try.ntmps49
   go_wp2_with (first
    | (go_at_call 54; refine (c1 _).mono ?_; rintro e w1 ⟨rfl, hb⟩; have Q := (box3_new _ _ _ _ _).below hb; have hB := below_box hb; clear hb)
    | (go_at_call 55; refine (c2 _).mono ?_; rintro e w2 ⟨v, u, rfl, rfl⟩)
    | (go_at_call 56; refine (c3 _).mono ?_; rintro e w3 ⟨z, rfl, hb⟩; replace Q := Q.below hb; obtain ⟨⟨q0, q1, q2⟩, f0, f1, f2⟩ := Q; replace hB := Below.tr hB hb; clear hb))
   obtain ⟨z0, z1, z2⟩ := set3_cells (v0 := .int .i64 0) (v1 := .int .i64 0) (v2 := .string ⟨#[]⟩) q0 q1 q2
   exact bodyPost_ret (v := .tuple #[.agg #[.int .i64 0, .int .i64 0, .string ⟨#[]⟩], .int .i64 41]) (by simp [results, Try.results49, go_sem, z0, z1, z2]) rfl ⟨rfl, below_set3 hB (Nat.le_refl _)⟩
theorem pageGet_any (s : ByteArray) (w : World) (hs : s.size ≤ maxLen) :
  Calls Try.prog 49 #[.string s] w fun e w' => e = .returned (.tuple #[.agg #[.int .i64 (readK s), .int .i64 (readG s), .string (readB s)], .int .i64 (readE s)]) ∧ Below w.heap.size w w' := by
 by_cases h : s.size ≤ 4096
 ·
  have e : readE s = fE (fullS s) := by rw [readE, if_pos h]
  unfold readK readG readB
  rw [e]
  exact pageGet_short s w h
 ·
  have e : readE s = 1 := by rw [readE, if_neg h]
  unfold readK readG readB
  rw [e]
  exact pageGet_long s w hs h
set_option maxHeartbeats 400000 in
theorem refGet_ok (s : ByteArray) (p k : Nat) (w : World) (hs : s.size ≤ maxLen) (h1 : 1 ≤ k) (h6 : k ≤ 6) (hp : p + k ≤ s.size) :
  Calls Try.prog 44 #[.string s, .int .i64 p, .int .i64 k] w fun e w' => e = .returned (.tuple #[.int .i64 (getV s p k), .int .i64 (p + k), .int .i64 0]) ∧ w = w' := by
 unfold maxLen at hs
 have hsp : ¬ s.size < p := by omega
 have hp0 : ¬ (p : Int) < 0 := by omega
 have hk1 : 1 ≤ (k : Int) := by omega
 have hk6 : (k : Int) ≤ 6 := by omega
 have hle : ¬ (s.size : Int) - (p : Int) < (k : Int) := by omega
 go_enter Try.func44, Try.ntmps44
 go_wp2
 go_loop [9, 10] (fun n v => ∃ i : Nat, i ≤ k ∧ v = .int .i64 i ∧ n = .int .i64 (getV s p i)) (fun _ v => k - (intOf v).toNat)
 case atStart => exact ⟨0, by omega, rfl, rfl⟩
 case round =>
  obtain ⟨i, hi, rfl, rfl⟩ := hrel
  obtain ⟨g0, g1⟩ := getV_bd s p i
  have g2 := pw_le i (by omega)
  by_cases hlt : i < k
  ·
   have HS : Hid (getV s p (i + 1) = getV s p i * 256 + (s[p + i].toNat : Int)) := getV_succ s p i (by omega)
   have ho := UInt8.toNat_lt s[p + i]
   go_wp2
   go_round
   case rel => exact ⟨i + 1, by omega, by go_num, by rw [HS.out]⟩
   case measure => simp [intOf]; omega
  ·
   obtain rfl : i = k := by omega
   go_wp2
   go_ret3
   exact ⟨rfl, rfl⟩
set_option maxHeartbeats 1000000 in
theorem refGet_arg (s : ByteArray) (p k : Int) (w : World) (hs : s.size ≤ maxLen) (h : ¬ (1 ≤ k ∧ k ≤ 6 ∧ 0 ≤ p ∧ p ≤ s.size)) :
  Calls Try.prog 44 #[.string s, .int .i64 p, .int .i64 k] w fun e w' => e = .returned (.tuple #[.int .i64 0, .int .i64 0, .int .i64 1]) ∧ w = w' := by
 unfold maxLen at hs
 by_cases h1 : 1 ≤ k
 ·
  by_cases h6 : k ≤ 6
  ·
   by_cases h0 : p < 0
   ·
    clear h
    go_enter Try.func44, Try.ntmps44
    go_wp2
    go_ret3
    exact ⟨rfl, rfl⟩
   ·
    obtain ⟨q, rfl⟩ : ∃ q : Nat, p = q := ⟨p.toNat, by omega⟩
    have hq : s.size < q := by omega
    clear h
    go_enter Try.func44, Try.ntmps44
    go_wp2
    go_ret3
    exact ⟨rfl, rfl⟩
  ·
   clear h
   go_enter Try.func44, Try.ntmps44
   go_wp2
   go_ret3
   exact ⟨rfl, rfl⟩
 ·
  clear h
  go_enter Try.func44, Try.ntmps44
  go_wp2
  go_ret3
  exact ⟨rfl, rfl⟩
set_option maxHeartbeats 400000 in
theorem refGet_short (s : ByteArray) (p k : Nat) (w : World) (hs : s.size ≤ maxLen) (h1 : 1 ≤ k) (h6 : k ≤ 6) (hp : p ≤ s.size) (hsh : (s.size : Int) - (p : Int) < (k : Int)) :
  Calls Try.prog 44 #[.string s, .int .i64 p, .int .i64 k] w fun e w' => e = .returned (.tuple #[.int .i64 0, .int .i64 0, .int .i64 3]) ∧ w = w' := by
 unfold maxLen at hs
 have hsp : ¬ s.size < p := by omega
 have hp0 : ¬ (p : Int) < 0 := by omega
 have hk1 : 1 ≤ (k : Int) := by omega
 have hk6 : (k : Int) ≤ 6 := by omega
 go_enter Try.func44, Try.ntmps44
 go_wp2
 go_ret3
 exact ⟨rfl, rfl⟩
theorem refGet_any (s : ByteArray) (p k : Int) (w : World) (hs : s.size ≤ maxLen) :
  Calls Try.prog 44 #[.string s, .int .i64 p, .int .i64 k] w fun e w' => e = .returned (.tuple #[.int .i64 (getR s p k), .int .i64 (getT s p k), .int .i64 (getE s p k)]) ∧ w = w' := by
 by_cases h : 1 ≤ k ∧ k ≤ 6 ∧ 0 ≤ p ∧ p ≤ s.size
 ·
  obtain ⟨h1, h6, h0, hp⟩ := h
  obtain ⟨q, rfl⟩ : ∃ q : Nat, p = q := ⟨p.toNat, by omega⟩
  obtain ⟨m, rfl⟩ : ∃ m : Nat, k = m := ⟨k.toNat, by omega⟩
  by_cases h2 : (s.size : Int) - (q : Int) < (m : Int)
  ·
   have e : getE s q m = 3 := by unfold getE; rw [if_pos ⟨h1, h6, h0, hp⟩, if_pos h2]
   rw [getR, getT, e, if_neg (by decide), if_neg (by decide)]
   exact refGet_short s q m w hs (by omega) (by omega) (by omega) h2
  ·
   have e : getE s q m = 0 := by unfold getE; rw [if_pos ⟨h1, h6, h0, hp⟩, if_neg h2]
   rw [getR, getT, e, if_pos rfl, if_pos rfl]
   exact refGet_ok s q m w hs (by omega) (by omega) (by omega)
 ·
  have e : getE s p k = 1 := by unfold getE; rw [if_neg h]
  rw [getR, getT, e, if_neg (by decide), if_neg (by decide)]
  exact refGet_arg s p k w hs h
set_option maxHeartbeats 400000 in
theorem refCut_any (s : ByteArray) (p : Int) (w : World) (hs : s.size ≤ maxLen) :
  Calls Try.prog 47 #[.string s, .int .i64 p] w fun e w' => e = .returned (.tuple #[.string (cutS s p), .int .i64 (cutT s p), .int .i64 (cutE s p)]) ∧ w = w' := by
 have hs' := hs
 unfold maxLen at hs
 by_cases h : getE s p 2 = 0
 ·
  obtain ⟨-, -, h0, hp⟩ := getE_ok h
  obtain ⟨q, rfl⟩ : ∃ q : Nat, p = q := ⟨p.toNat, by omega⟩
  obtain ⟨g0, g1⟩ := getV_bd s q 2
  have g2 : pw 2 = 65536 := by decide
  have eR : getR s q 2 = getV s q 2 := by rw [getR, if_pos h]; rfl
  have eT : getT s q 2 = q + 2 := by rw [getT, if_pos h]
  obtain ⟨v, hv⟩ : ∃ v : Nat, getV s q 2 = v := ⟨(getV s q 2).toNat, by omega⟩
  have hcE : cutE s q = if (s.size : Int) - ((q : Int) + 2) < (v : Int) then 3 else 0 := by rw [cutE, if_pos h]; simp [hv]
  rw [hv] at eR g0 g1
  by_cases hsh : (s.size : Int) - ((q : Int) + 2) < (v : Int)
  ·
   rw [if_pos hsh] at hcE
   rw [cutS, cutT, hcE, if_neg (by decide), if_neg (by decide)]
   clear hcE hv
   go_enter Try.func47, Try.ntmps47
   go_wp2_with (go_at_call 44; refine (refGet_any _ _ _ _ hs').mono ?_; rintro e w' ⟨rfl, rfl⟩)
   go_ret3
   exact ⟨rfl, rfl⟩
  ·
   rw [if_neg hsh] at hcE
   rw [cutS, cutT, hcE, if_pos rfl, if_pos rfl]
   have e1 : ((q : Int) + 2).toNat = q + 2 := by omega
   have e2 : ((q : Int) + 2 + getV s q 2).toNat = q + 2 + v := by rw [hv]; omega
   have e3 : ((q : Int).toNat) = q := rfl
   rw [e3, e1, e2, hv]
   obtain ⟨f, hf⟩ : ∃ f : Nat, q + 2 = f := ⟨_, rfl⟩
   have hf' : (q : Int) + 2 = f := by omega
   have hsh' : f + v ≤ s.size := by omega
   rw [hf'] at eT
   rw [hf, hf']
   have hv' : v < 65536 := by omega
   clear hcE hv e2 e1 e3 hsh hp hf hf' h0 g0 g1 g2
   go_enter Try.func47, Try.ntmps47
   go_wp2_with (go_at_call 44; refine (refGet_any _ _ _ _ hs').mono ?_; rintro e w' ⟨rfl, rfl⟩)
   go_ret3
   exact ⟨rfl, rfl⟩
 ·
  have hcE : cutE s p = getE s p 2 := by rw [cutE, if_neg h]
  rw [cutS, cutT, hcE, if_neg h, if_neg h]
  have hne : (getE s p 2 != 0) = true := by simpa using h
  clear h hcE
  go_enter Try.func47, Try.ntmps47
  go_wp2_with (go_at_call 44; refine (refGet_any _ _ _ _ hs').mono ?_; rintro e w' ⟨rfl, rfl⟩)
  go_ret3
  exact ⟨rfl, rfl⟩
theorem Box3.drew_eq {w W : World} {h : Nat} {v0 v1 v2 : Value} (b : Box3 w h v0 v1 v2) (e : w.drew = W) : Box3 W h v0 v1 v2 := by subst e; exact b
theorem below_drew_eq {n : Nat} {w a W : World} (b : Below n w a) (e : a.drew = W) : Below n w W := by subst e; exact Below.drew b
set_option maxHeartbeats 2000000 in
theorem refPageGet_long (s : ByteArray) (w : World) (hs : s.size ≤ maxLen) (h : ¬ s.size ≤ 4096) :
  Calls Try.prog 34 #[.string s] w fun e w' => e = .returned (.tuple #[.agg #[.int .i64 0, .int .i64 0, .string ⟨#[]⟩], .int .i64 1]) ∧ Below w.heap.size w w' := by
 unfold maxLen at hs
 have h' : (4096 : Int) < s.size := by omega
 go_enter Try.func34, Try.ntmps34
 go_wp2
 exact bodyPost_ret (v := .tuple #[.agg #[.int .i64 0, .int .i64 0, .string ⟨#[]⟩], .int .i64 1]) (by simp [results, Try.results34, go_sem]) rfl ⟨rfl, (Below.refl _ _).alloc (Nat.le_refl _) _⟩
set_option maxHeartbeats 4000000 in
theorem refPageGet_short (s : ByteArray) (w : World) (h : s.size ≤ 4096) :
  Calls Try.prog 34 #[.string s] w fun e w' => e = .returned (.tuple #[.agg #[.int .i64 (fullK (fullS s)), .int .i64 (fullG (fullS s)), .string (fullB (fullS s))], .int .i64 (fE (fullS s))]) ∧ Below w.heap.size w w' := by
 have hs : s.size ≤ maxLen := by unfold maxLen; omega
 have hF := fullS_size h
 obtain ⟨F, hFe⟩ : ∃ F, F = fullS s := ⟨_, rfl⟩
 rw [← hFe] at hF ⊢
 have c1 : ∀ W, Calls Try.prog 42 #[.string s, .int .i64 4096] W fun e w' => e = .returned (.tuple #[.string F, .int .i64 0]) ∧ Below W.heap.size W w' := by
  intro W
  have e : padE s 4096 = 0 := by
   unfold padE
   rw [if_pos ⟨by omega, by omega⟩, if_pos (by omega)]
  refine (refPad_any s 4096 W hs).mono fun ee w' ⟨he, hb⟩ => ⟨?_, hb⟩
  rw [he, e, hFe, padS, if_pos e]; rfl
 have hFm : F.size ≤ maxLen := by unfold maxLen; omega
 have hF4 : 4096 ≤ F.size := by omega
 have hFu : F.size ≤ 4096 := by omega
 have hs' : s.size ≤ 9223372036854775807 := hs
 have h' : (s.size : Int) ≤ 4096 := by omega
 have l7 : 7 < F.size := by omega
 have l8 : 8 < F.size := by omega
 have l0 : 0 < F.size := by omega
 obtain ⟨n, hn⟩ : ∃ n, n = fN F := ⟨_, rfl⟩
 have hn7 : (n : Int) = (256 : Int) * ((F[7]'l7).toNat : Int) + ((F[8]'l8).toNat : Int) := by
  have h0 := (getV_bd F 7 2).1
  have h1 : getV F 7 2 = getV F 7 1 * 256 + ((F[8]'l8).toNat : Int) := getV_succ F 7 1 l8
  have h2 : getV F 7 1 = getV F 7 0 * 256 + ((F[7]'l7).toNat : Int) := getV_succ F 7 0 l7
  have h3 : getV F 7 0 = 0 := rfl
  rw [hn]
  unfold fN
  omega
 obtain ⟨b7, hb7⟩ : ∃ b : Nat, ∀ h : 7 < F.size, (F[7]'h).toNat = b := ⟨(F[7]'l7).toNat, fun _ => rfl⟩
 obtain ⟨b8, hb8⟩ : ∃ b : Nat, ∀ h : 8 < F.size, (F[8]'h).toNat = b := ⟨(F[8]'l8).toNat, fun _ => rfl⟩
 obtain ⟨b0, hb0⟩ : ∃ b : Nat, ∀ h : 0 < F.size, (F[0]'h).toNat = b := ⟨(F[0]'l0).toNat, fun _ => rfl⟩
 have hw : Hid (IntKind.i64.wrap (IntKind.i64.wrap ((256 : Int) * IntKind.i64.wrap (b7 : Int)) + IntKind.i64.wrap (b8 : Int)) = (n : Int)) := by
  show _ = _
  have x7 : (F[7]'l7).toNat < 256 := UInt8.toNat_lt _
  have x8 : (F[8]'l8).toNat < 256 := UInt8.toNat_lt _
  rw [hb7] at x7 hn7
  rw [hb8] at x8 hn7
  rw [i64_in (b7 : Int) (by omega) (by omega), i64_in (b8 : Int) (by omega) (by omega), i64_in ((256 : Int) * (b7 : Int)) (by omega) (by omega), ← hn7, i64_in (n : Int) (by omega) (by omega)]
 clear hn7
 have hF0 : Hid (F.size = 4096) := hF
 have hn0 : Hid (n = fN F) := hn
 clear hF hFe hn
 have hb0' : Hid (∀ h : 0 < F.size, (F[0]'h).toNat = b0) := hb0
 have hb7' : Hid (∀ h : 7 < F.size, (F[7]'h).toNat = b7) := hb7
 have hb8' : Hid (∀ h : 8 < F.size, (F[8]'h).toNat = b8) := hb8
 clear hb0 hb7 hb8
 obtain ⟨K, hKe⟩ : ∃ K, K = fK F := ⟨_, rfl⟩
 obtain ⟨G, hGe⟩ : ∃ G, G = fG F := ⟨_, rfl⟩
 obtain ⟨B, hBe⟩ : ∃ B, B = fB F := ⟨_, rfl⟩
 have hw0 : Hid (IntKind.i64.wrap (b0 : Int) = K) := by
  show _ = _
  have x0 : (F[0]'l0).toNat < 256 := UInt8.toNat_lt _
  have h2 : getV F 0 1 = getV F 0 0 * 256 + ((F[0]'l0).toNat : Int) := getV_succ F 0 0 l0
  have h3 : getV F 0 0 = 0 := rfl
  rw [hb0'.out] at x0 h2
  rw [i64_in (b0 : Int) (by omega) (by omega), hKe]
  unfold fK
  omega
 have cG : ∀ W, Calls Try.prog 44 #[.string F, .int .i64 1, .int .i64 6] W fun e w' => ∃ v u, e = .returned (.tuple #[.int .i64 G, .int .i64 v, .int .i64 u]) ∧ W = w' := by
  intro W
  have e : getE F 1 6 = 0 := getE_zero ⟨by omega, by omega, by omega, by omega⟩
  refine (refGet_any F 1 6 W hFm).mono fun ee w' ⟨he, hb⟩ => ⟨getT F 1 6, 0, ?_, hb⟩
  rw [he, e, getR, e, hGe]; rfl
 have hG0 : 0 ≤ G := by rw [hGe]; exact (getV_bd F 1 6).1
 have hGm : G ≤ 281474976710656 := by rw [hGe]; have := (getV_bd F 1 6).2; have h6 := pw_le 6 (by omega); unfold fG; omega
 have hFm' : F.size ≤ 9223372036854775807 := hFm
 go_enter Try.func34, Try.ntmps34
 go_wp2_with (first
  | (go_at_call 42; refine (c1 _).mono ?_; rintro e w1 ⟨rfl, hb⟩; have Q := (box3_new _ _ _ _ _).below hb; have hB := below_box hb; clear hb))
 refine (fun (keyA : Hid ?propA) => ?regA) ?kontA
 case regA =>
  go_region_held3 (fun _ => True) (trivial) (fail)
  all_goals simp only [hb7'.out, hb8'.out, hw.out]
  all_goals exact keyA.out
 case kontA =>
  unfold Hid
  generalize hW : w1.drew = W
  replace Q := Q.drew_eq hW
  replace hB := below_drew_eq hB hW
  clear hW c1 hw hb7' hb8'
  by_cases h1 : 4000 < n
  ·
   have hE : fE F = 4 := by unfold fE; rw [if_pos (by have := hn0.out; omega)]
   have xK : Hid (fullK F = 0) := by show _ = _; unfold fullK; rw [hE]; rfl
   have xG : Hid (fullG F = 0) := by show _ = _; unfold fullG; rw [hE]; rfl
   have xB : Hid (fullB F = ⟨#[]⟩) := by show _ = _; unfold fullB; rw [hE]; rfl
   have xE : Hid (fE F = 4) := hE
   clear hE hKe hGe hBe
   have h1' : (4000 : Int) < n := by omega
   obtain ⟨⟨q0, q1, q2⟩, f0, f1, f2⟩ := Q
   go_wp2
   obtain ⟨z0, z1, z2⟩ := set3_cells (v0 := .int .i64 0) (v1 := .int .i64 0) (v2 := .string ⟨#[]⟩) q0 q1 q2
   exact bodyPost_ret (v := .tuple #[.agg #[.int .i64 0, .int .i64 0, .string ⟨#[]⟩], .int .i64 4]) (by simp [results, Try.results34, go_sem, z0, z1, z2]) rfl ⟨by rw [xE.out, xK.out, xG.out, xB.out], below_set3 hB (Nat.le_refl _)⟩
  ·
   have hn4 : n ≤ 4000 := by omega
   have hn4' : (n : Int) ≤ 4000 := by omega
   have hz9 : (F.extract 0 (9 + n)).size ≤ 1000000 := by rw [ByteArray.size_extract]; omega
   obtain ⟨u, hu⟩ : ∃ u, u = sealS (F.extract 0 (9 + n)) := ⟨_, rfl⟩
   have c2 : ∀ W, Calls Try.prog 43 #[.string (F.extract 0 (9 + n))] W fun e w' => e = .returned (.string u) ∧ Below W.heap.size W w' := by
    intro W; rw [hu]; exact refSeal_ok _ W hz9
   have hS : Hid (fSealed F ↔ u = F.extract 0 (13 + n)) := by
    show _ ↔ _
    rw [fSealed_iff, ← hn0.out, ← hu]
   clear hu hz9
   have HK : Hid (K = fK F) := hKe
   have HG : Hid (G = fG F) := hGe
   have HBB : Hid (B = fB F) := hBe
   clear hKe hGe hBe
   go_wp2
   refine (fun (keyB : Hid (∀ V : World, Box3 V w.heap.size (.int .i64 0) (.int .i64 0) (.string ⟨#[]⟩) → Below w.heap.size w V → (?propB : World → Prop) V)) => ?regB) ?kontB
   case regB =>
    have hK' : ∀ V, Below W.drew.heap.size W.drew V → Box3 V w.heap.size (.int .i64 0) (.int .i64 0) (.string ⟨#[]⟩) ∧ Below w.heap.size w V := fun V hV => ⟨Box3.below (w := W.drew) Q hV, Below.tr (Below.drew hB) hV⟩
    have i1 : (0 : Int) ≤ 9 + (n : Int) := by omega
    have i2 : 9 + (n : Int) ≤ (F.size : Int) := by omega
    have i3 : (0 : Int) ≤ 13 + (n : Int) := by omega
    have i4 : 13 + (n : Int) ≤ (F.size : Int) := by omega
    have i5 : IntKind.i64.wrap (9 + (n : Int)) = 9 + (n : Int) := i64_in _ (by omega) (by omega)
    have i6 : IntKind.i64.wrap (13 + (n : Int)) = 13 + (n : Int) := i64_in _ (by omega) (by omega)
    have i7 : (9 + (n : Int)).toNat = 9 + n := by omega
    have i8 : (13 + (n : Int)).toNat = 13 + n := by omega
    go_region_held3 (fun _ => True) (trivial) (first
     | (go_at_call 43; refine (c2 _).mono ?_; rintro e w2 ⟨rfl, hb⟩; obtain ⟨Q2, hB2⟩ := hK' _ hb; clear hb))
    all_goals exact keyB.out _ Q2 hB2
   case kontB =>
    unfold Hid
    clear Q hB c2
    intro V Q hB
    by_cases h2 : u = F.extract 0 (13 + n)
    ·
     have h2' : fSealed F := hS.out.2 h2
     subst h2
     have c3 : ∀ W, Calls Try.prog 45 #[.agg #[.int .i64 K, .int .i64 G, .string B]] W fun e w' => e = .returned (.bool (isKind K && isGen G)) ∧ Below W.heap.size W w' := by
      intro W
      have hbs : B.size = n := by
       rw [HBB.out]; unfold fB
       rw [← hn0.out, extract_size' _ _ _ (by omega) (by omega)]
       omega
      have := refPageRight_any K G B W (by unfold maxLen; omega)
      rwa [rightP_eq, decide_eq_true (show (B.size : Int) ≤ 4000 by omega), Bool.and_true] at this
     clear hS
     obtain ⟨R, hRe⟩ : ∃ R, R = trimS (fRest F) := ⟨_, rfl⟩
     have c4 : ∀ W, Calls Try.prog 46 #[.string (F.extract (13 + n) F.size)] W fun e w' => e = .returned (.string R) ∧ W = w' := by
      intro W
      have := refTrim_any (fRest F) W (by unfold fRest; rw [ByteArray.size_extract]; unfold maxLen; omega)
      rw [← hRe] at this
      unfold fRest at this
      rwa [← hn0.out] at this
     have hBx : Hid (F.extract 9 (9 + n) = B) := by
      show _ = _
      rw [HBB.out]; unfold fB
      rw [← hn0.out]
     have hn1 := str_ne_false (a := F.extract 0 (13 + n)) rfl
     rw [hn1]
     clear hn1
     go_wp2_with (first
      | (go_at_call 44; refine (cG _).mono ?_; rintro e w2 ⟨v, u, rfl, rfl⟩))
     refine (fun (keyC : Hid ?propC) => ?regC) ?kontC
     case regC =>
      have i1 : (0 : Int) ≤ 9 + (n : Int) := by omega
      have i2 : 9 + (n : Int) ≤ (F.size : Int) := by omega
      have i3 : (9 : Int) ≤ 9 + (n : Int) := by omega
      have i4 : (0 : Int) < (F.size : Int) := by omega
      have i5 : IntKind.i64.wrap (9 + (n : Int)) = 9 + (n : Int) := i64_in _ (by omega) (by omega)
      have i7 : (9 + (n : Int)).toNat = 9 + n := by omega
      go_region_held3 (fun _ => True) (trivial) (fail)
      all_goals simp only [hb0'.out, hw0.out, hBx.out]
      all_goals exact keyC.out
     case kontC =>
      unfold Hid
      have PQ : ∀ X : World, (V.alloc (.cells #[.int .i64 K, .int .i64 G, .string B] 78)).drew = X →
        Box3 X w.heap.size (.int .i64 0) (.int .i64 0) (.string ⟨#[]⟩) ∧ Box3 X V.heap.size (.int .i64 K) (.int .i64 G) (.string B) ∧ Below w.heap.size w X := by
       intro X hX
       exact ⟨(Q.alloc _).drew_eq hX, (box3_new V _ _ _ _).drew_eq hX, below_drew_eq (hB.alloc hB.size _) hX⟩
      generalize hX : (V.alloc (.cells #[.int .i64 K, .int .i64 G, .string B] 78)).drew = X
      obtain ⟨Q1, P1, hB1⟩ := PQ X hX
      clear PQ hX Q hB
      have hB := hB1
      clear hB1
      have QQ : Hid (Box3 X w.heap.size (.int .i64 0) (.int .i64 0) (.string ⟨#[]⟩)) := Q1
      have PP : Hid (Box3 X V.heap.size (.int .i64 K) (.int .i64 G) (.string B)) := P1
      obtain ⟨⟨q0, q1, q2⟩, f0, f1, f2⟩ := Q1
      obtain ⟨⟨p0, p1, p2⟩, g0, g1, g2⟩ := P1
      have hF1 : Hid (∀ e : Int, (if 1 ≤ K ∧ K ≤ 5 then (if G ≤ 1099511627776 ∧ R = ⟨#[]⟩ then 0 else 4) else 40) = e → fE F = e) := by
       intro e he
       unfold fE
       rw [if_neg (by have := hn0.out; omega), if_pos h2', ← HK.out, ← HG.out, ← hRe]
       exact he
      clear hRe h2' cG
      by_cases k1 : K < 1
      ·
       have hE : fE F = 40 := hF1.out _ (if_neg (by omega))
       have xK : Hid (fullK F = 0) := by show _ = _; unfold fullK; rw [hE]; rfl
       have xG : Hid (fullG F = 0) := by show _ = _; unfold fullG; rw [hE]; rfl
       have xB : Hid (fullB F = ⟨#[]⟩) := by show _ = _; unfold fullB; rw [hE]; rfl
       have xE : Hid (fE F = 40) := hE
       clear hE
       go_wp2
       obtain ⟨z0, z1, z2⟩ := set3_cells (v0 := .int .i64 0) (v1 := .int .i64 0) (v2 := .string ⟨#[]⟩) q0 q1 q2
       exact bodyPost_ret (v := .tuple #[.agg #[.int .i64 0, .int .i64 0, .string ⟨#[]⟩], .int .i64 40]) (by simp [results, Try.results34, go_sem, z0, z1, z2]) rfl ⟨by rw [xE.out, xK.out, xG.out, xB.out], below_set3 hB (Nat.le_refl _)⟩
      by_cases k5 : 5 < K
      ·
       have hE : fE F = 40 := hF1.out _ (if_neg (by omega))
       have xK : Hid (fullK F = 0) := by show _ = _; unfold fullK; rw [hE]; rfl
       have xG : Hid (fullG F = 0) := by show _ = _; unfold fullG; rw [hE]; rfl
       have xB : Hid (fullB F = ⟨#[]⟩) := by show _ = _; unfold fullB; rw [hE]; rfl
       have xE : Hid (fE F = 40) := hE
       clear hE
       go_wp2
       obtain ⟨z0, z1, z2⟩ := set3_cells (v0 := .int .i64 0) (v1 := .int .i64 0) (v2 := .string ⟨#[]⟩) q0 q1 q2
       exact bodyPost_ret (v := .tuple #[.agg #[.int .i64 0, .int .i64 0, .string ⟨#[]⟩], .int .i64 40]) (by simp [results, Try.results34, go_sem, z0, z1, z2]) rfl ⟨by rw [xE.out, xK.out, xG.out, xB.out], below_set3 hB (Nat.le_refl _)⟩
      have hkk : 1 ≤ K ∧ K ≤ 5 := by omega
      have hk1 : isKind K = true := by simp [isKind]; omega
      rw [hk1, Bool.true_and] at c3
      by_cases y : G ≤ 1099511627776
      ·
       have hy : isGen G = true := by simp [isGen, hG0, y]
       rw [hy] at c3
       by_cases hR : R = ⟨#[]⟩
       ·
        have hE : fE F = 0 := hF1.out _ (by rw [if_pos hkk, if_pos ⟨y, hR⟩])
        have xK : Hid (fullK F = K) := by show _ = _; unfold fullK; rw [hE, HK.out]; rfl
        have xG : Hid (fullG F = G) := by show _ = _; unfold fullG; rw [hE, HG.out]; rfl
        have xB : Hid (fullB F = B) := by show _ = _; unfold fullB; rw [hE, HBB.out]; rfl
        have xE : Hid (fE F = 0) := hE
        clear hE hy hkk hk1
        subst hR
        go_wp2_with (first
         | (go_at_call 45; refine (c3 _).mono ?_; rintro e w3 ⟨rfl, hb⟩; obtain ⟨⟨q0, q1, q2⟩, f0, f1, f2⟩ := Box3.below QQ.out hb; obtain ⟨⟨p0, p1, p2⟩, g0, g1, g2⟩ := Box3.below PP.out hb; replace hB := Below.tr hB hb; clear hb)
         | (go_at_call 46; refine (c4 _).mono ?_; rintro e w4 ⟨rfl, rfl⟩))
        obtain ⟨z0, z1, z2⟩ := set3_cells (v0 := .int .i64 K) (v1 := .int .i64 G) (v2 := .string B) q0 q1 q2
        exact bodyPost_ret (v := .tuple #[.agg #[.int .i64 K, .int .i64 G, .string B], .int .i64 0]) (by simp [results, Try.results34, go_sem, z0, z1, z2]) rfl ⟨by rw [xE.out, xK.out, xG.out, xB.out], below_set3 hB (Nat.le_refl _)⟩
       ·
        have hE : fE F = 4 := hF1.out _ (by rw [if_pos hkk, if_neg (fun hh => hR hh.2)])
        have xK : Hid (fullK F = 0) := by show _ = _; unfold fullK; rw [hE]; rfl
        have xG : Hid (fullG F = 0) := by show _ = _; unfold fullG; rw [hE]; rfl
        have xB : Hid (fullB F = ⟨#[]⟩) := by show _ = _; unfold fullB; rw [hE]; rfl
        have xE : Hid (fE F = 4) := hE
        have hR1 := str_some hR
        clear hE hy hkk hk1
        go_wp2_with (first
         | (go_at_call 45; refine (c3 _).mono ?_; rintro e w3 ⟨rfl, hb⟩; obtain ⟨⟨q0, q1, q2⟩, f0, f1, f2⟩ := Box3.below QQ.out hb; obtain ⟨⟨p0, p1, p2⟩, g0, g1, g2⟩ := Box3.below PP.out hb; replace hB := Below.tr hB hb; clear hb)
         | (go_at_call 46; refine (c4 _).mono ?_; rintro e w4 ⟨rfl, rfl⟩))
        obtain ⟨z0, z1, z2⟩ := set3_cells (v0 := .int .i64 0) (v1 := .int .i64 0) (v2 := .string ⟨#[]⟩) q0 q1 q2
        exact bodyPost_ret (v := .tuple #[.agg #[.int .i64 0, .int .i64 0, .string ⟨#[]⟩], .int .i64 4]) (by simp [results, Try.results34, go_sem, z0, z1, z2]) rfl ⟨by rw [xE.out, xK.out, xG.out, xB.out], below_set3 hB (Nat.le_refl _)⟩
      ·
       have hy : isGen G = false := by simp [isGen, hG0]; omega
       rw [hy] at c3
       have hE : fE F = 4 := hF1.out _ (by rw [if_pos hkk, if_neg (fun hh => y hh.1)])
       have xK : Hid (fullK F = 0) := by show _ = _; unfold fullK; rw [hE]; rfl
       have xG : Hid (fullG F = 0) := by show _ = _; unfold fullG; rw [hE]; rfl
       have xB : Hid (fullB F = ⟨#[]⟩) := by show _ = _; unfold fullB; rw [hE]; rfl
       have xE : Hid (fE F = 4) := hE
       clear hE hy hkk hk1
       go_wp2_with (first
        | (go_at_call 45; refine (c3 _).mono ?_; rintro e w3 ⟨rfl, hb⟩; obtain ⟨⟨q0, q1, q2⟩, f0, f1, f2⟩ := Box3.below QQ.out hb; obtain ⟨⟨p0, p1, p2⟩, g0, g1, g2⟩ := Box3.below PP.out hb; replace hB := Below.tr hB hb; clear hb)
        | (go_at_call 46; refine (c4 _).mono ?_; rintro e w4 ⟨rfl, rfl⟩))
       obtain ⟨z0, z1, z2⟩ := set3_cells (v0 := .int .i64 0) (v1 := .int .i64 0) (v2 := .string ⟨#[]⟩) q0 q1 q2
       exact bodyPost_ret (v := .tuple #[.agg #[.int .i64 0, .int .i64 0, .string ⟨#[]⟩], .int .i64 4]) (by simp [results, Try.results34, go_sem, z0, z1, z2]) rfl ⟨by rw [xE.out, xK.out, xG.out, xB.out], below_set3 hB (Nat.le_refl _)⟩
    ·
     have h2' : ¬ fSealed F := fun hh => h2 (hS.out.1 hh)
     have hn1 := str_ne_true h2
     have hE : fE F = 41 := by unfold fE; rw [if_neg (by have := hn0.out; omega), if_neg h2']
     have xK : Hid (fullK F = 0) := by show _ = _; unfold fullK; rw [hE]; rfl
     have xG : Hid (fullG F = 0) := by show _ = _; unfold fullG; rw [hE]; rfl
     have xB : Hid (fullB F = ⟨#[]⟩) := by show _ = _; unfold fullB; rw [hE]; rfl
     have xE : Hid (fE F = 41) := hE
     clear hE h2' hS h2
     obtain ⟨⟨q0, q1, q2⟩, f0, f1, f2⟩ := Q
     rw [hn1]
     clear hn1
     go_wp2
     obtain ⟨z0, z1, z2⟩ := set3_cells (v0 := .int .i64 0) (v1 := .int .i64 0) (v2 := .string ⟨#[]⟩) q0 q1 q2
     exact bodyPost_ret (v := .tuple #[.agg #[.int .i64 0, .int .i64 0, .string ⟨#[]⟩], .int .i64 41]) (by simp [results, Try.results34, go_sem, z0, z1, z2]) rfl ⟨by rw [xE.out, xK.out, xG.out, xB.out], below_set3 hB (Nat.le_refl _)⟩
theorem refPageGet_any (s : ByteArray) (w : World) (hs : s.size ≤ maxLen) :
  Calls Try.prog 34 #[.string s] w fun e w' => e = .returned (.tuple #[.agg #[.int .i64 (readK s), .int .i64 (readG s), .string (readB s)], .int .i64 (readE s)]) ∧ Below w.heap.size w w' := by
 by_cases h : s.size ≤ 4096
 ·
  have e : readE s = fE (fullS s) := by rw [readE, if_pos h]
  unfold readK readG readB
  rw [e]
  exact refPageGet_short s w h
 ·
  have e : readE s = 1 := by rw [readE, if_neg h]
  unfold readK readG readB
  rw [e]
  exact refPageGet_long s w hs h
end Go.Proofs.Ytpepgpjiddophaa
namespace Go.Proofs.Ytpepgpjiddophaa
open Go.RowKit Plain Anylast
set_option linter.unusedVariables false
def rdS (s : ByteArray) (p e : Int) : ByteArray := if e = 0 then cutS s p else ⟨#[]⟩
def rdP (s : ByteArray) (p e : Int) : Int := if e = 0 then cutT s p else p
def rdE (s : ByteArray) (p e : Int) : Int := if e = 0 then cutE s p else e
def rnR (s : ByteArray) (p e k : Int) : Int := if e = 0 then getR s p k else 0
def rnP (s : ByteArray) (p e k : Int) : Int := if e = 0 then getT s p k else p
def rnE (s : ByteArray) (p e k : Int) : Int := if e = 0 then getE s p k else e
theorem turns_set12 (w : World) (h : Nat) (u1 u2 : Value) : Turns (fun k => k = h) w ((w.drew.setCell ⟨h, 1, none⟩ u1).setCell ⟨h, 2, none⟩ u2) :=
 Turns.setCell (P := fun k => k = h) (Turns.setCell (P := fun k => k = h) (Turns.refl _ _).drew (p := ⟨h, 1, none⟩) rfl u1) (p := ⟨h, 2, none⟩) rfl u2
set_option maxRecDepth 20000 in
set_option maxHeartbeats 1000000 in
theorem rtext_any (h : Nat) (s : ByteArray) (p e : Int) (w : World) (b : Box3 w h (.string s) (.int .i64 p) (.int .i64 e)) (hs : s.size ≤ maxLen) :
  ∃ w1, Box3 w1 h (.string s) (.int .i64 (rdP s p e)) (.int .i64 (rdE s p e)) ∧ Turns (fun k => k = h) w w1 ∧ w1.heap.size = w.heap.size ∧
   Calls Try.prog 75 #[.pointer (some ⟨h, 0, none⟩)] w fun r w' => r = .returned (.string (rdS s p e)) ∧ w' = w1 := by
 by_cases he : e = 0
 ·
  subst he
  have e1 : rdS s p 0 = cutS s p := by unfold rdS; rw [if_pos rfl]
  have e2 : rdP s p 0 = cutT s p := by unfold rdP; rw [if_pos rfl]
  have e3 : rdE s p 0 = cutE s p := by unfold rdE; rw [if_pos rfl]
  rw [e1, e2, e3]
  have cC := fun V => cut_any s p V hs
  generalize cutS s p = x at cC
  generalize cutT s p = q at cC
  generalize cutE s p = y at cC
  refine ⟨(w.drew.setCell ⟨h, 1, none⟩ (.int .i64 q)).setCell ⟨h, 2, none⟩ (.int .i64 y), Box3.set12 (w := w.drew) b _ _, turns_set12 w h _ _, by simp, ?_⟩
  clear e1 e2 e3
  obtain ⟨⟨q0, q1, q2⟩, f0, f1, f2⟩ := id b
  go_enter Try.func75, Try.ntmps75
  go_wp2
  go_region_held3 (fun V => V.cell? ⟨h, 0, none⟩ = some (.string s) ∧ V.cell? ⟨h, 1, none⟩ = some (.int .i64 p) ∧ V.heap = w.heap) (exact ⟨q0, q1, rfl⟩) (first
   | (go_at_call 74; refine (cC _).mono ?_; rintro e w' ⟨rfl, rfl⟩))
  go_wp2
  go_ret
  exact ⟨rfl, rfl⟩
 ·
  have e1 : rdS s p e = ⟨#[]⟩ := by unfold rdS; rw [if_neg he]
  have e2 : rdP s p e = p := by unfold rdP; rw [if_neg he]
  have e3 : rdE s p e = e := by unfold rdE; rw [if_neg he]
  rw [e1, e2, e3]
  have he' : (e != 0) = true := by simpa using he
  refine ⟨w, b, Turns.refl _ _, rfl, ?_⟩
  obtain ⟨⟨q0, q1, q2⟩, f0, f1, f2⟩ := id b
  clear e1 e2 e3
  go_enter Try.func75, Try.ntmps75
  go_wp2
  go_ret
  exact ⟨rfl, rfl⟩
set_option maxRecDepth 20000 in
set_option maxHeartbeats 1000000 in
theorem rnumber_any (h : Nat) (s : ByteArray) (p e k : Int) (w : World) (b : Box3 w h (.string s) (.int .i64 p) (.int .i64 e)) (hs : s.size ≤ maxLen) :
  ∃ w1, Box3 w1 h (.string s) (.int .i64 (rnP s p e k)) (.int .i64 (rnE s p e k)) ∧ Turns (fun k => k = h) w w1 ∧ w1.heap.size = w.heap.size ∧
   Calls Try.prog 62 #[.pointer (some ⟨h, 0, none⟩), .int .i64 k] w fun r w' => r = .returned (.int .i64 (rnR s p e k)) ∧ w' = w1 := by
 by_cases he : e = 0
 ·
  subst he
  have e1 : rnR s p 0 k = getR s p k := by unfold rnR; rw [if_pos rfl]
  have e2 : rnP s p 0 k = getT s p k := by unfold rnP; rw [if_pos rfl]
  have e3 : rnE s p 0 k = getE s p k := by unfold rnE; rw [if_pos rfl]
  rw [e1, e2, e3]
  have cC := fun V => get_any s p k V hs
  generalize getR s p k = x at cC
  generalize getT s p k = q at cC
  generalize getE s p k = y at cC
  refine ⟨(w.drew.setCell ⟨h, 1, none⟩ (.int .i64 q)).setCell ⟨h, 2, none⟩ (.int .i64 y), Box3.set12 (w := w.drew) b _ _, turns_set12 w h _ _, by simp, ?_⟩
  clear e1 e2 e3
  obtain ⟨⟨q0, q1, q2⟩, f0, f1, f2⟩ := id b
  go_enter Try.func62, Try.ntmps62
  go_wp2
  go_region_held3 (fun V => V.cell? ⟨h, 0, none⟩ = some (.string s) ∧ V.cell? ⟨h, 1, none⟩ = some (.int .i64 p)) (exact ⟨q0, q1⟩) (first
   | (go_at_call 55; refine (cC _).mono ?_; rintro e w' ⟨rfl, rfl⟩))
  go_wp2
  go_ret
  exact ⟨rfl, rfl⟩
 ·
  have e1 : rnR s p e k = 0 := by unfold rnR; rw [if_neg he]
  have e2 : rnP s p e k = p := by unfold rnP; rw [if_neg he]
  have e3 : rnE s p e k = e := by unfold rnE; rw [if_neg he]
  rw [e1, e2, e3]
  have he' : (e != 0) = true := by simpa using he
  refine ⟨w, b, Turns.refl _ _, rfl, ?_⟩
  obtain ⟨⟨q0, q1, q2⟩, f0, f1, f2⟩ := id b
  clear e1 e2 e3
  go_enter Try.func62, Try.ntmps62
  go_wp2
  go_ret
  exact ⟨rfl, rfl⟩
structure RdL where
 p : Int
 e : Int
 ks : List ByteArray
 vs : List ByteArray
def rdLeaf (s : ByteArray) (p e : Int) : Nat → RdL
 | 0 => ⟨p, e, [], []⟩
 | j + 1 =>
  let a := rdLeaf s p e j
  let p1 := rdP s a.p a.e
  let e1 := rdE s a.p a.e
  ⟨rdP s p1 e1, rdE s p1 e1, a.ks ++ [rdS s a.p a.e], a.vs ++ [rdS s p1 e1]⟩
structure RdI where
 p : Int
 e : Int
 ks : List ByteArray
 cs : List Int
def rdInn (s : ByteArray) (p e : Int) : Nat → RdI
 | 0 => ⟨rnP s p e 2, rnE s p e 2, [], [rnR s p e 2]⟩
 | j + 1 =>
  let a := rdInn s p e j
  let p1 := rdP s a.p a.e
  let e1 := rdE s a.p a.e
  ⟨rnP s p1 e1 2, rnE s p1 e1 2, a.ks ++ [rdS s a.p a.e], a.cs ++ [rnR s p1 e1 2]⟩
theorem rdLeaf_len (s : ByteArray) (p e : Int) (j : Nat) : (rdLeaf s p e j).ks.length = j ∧ (rdLeaf s p e j).vs.length = j := by
 induction j with
 | zero => exact ⟨rfl, rfl⟩
 | succ j ih => simp [rdLeaf, ih.1, ih.2]
theorem rdInn_len (s : ByteArray) (p e : Int) (j : Nat) : (rdInn s p e j).ks.length = j ∧ (rdInn s p e j).cs.length = j + 1 := by
 induction j with
 | zero => exact ⟨rfl, rfl⟩
 | succ j ih => simp [rdInn, ih.1, ih.2]
theorem cutS_size (s : ByteArray) (p : Int) : (cutS s p).size ≤ s.size := by
 unfold cutS
 split
 ·
  rw [ByteArray.size_extract]; omega
 ·
  exact Nat.zero_le _
theorem rdS_size (s : ByteArray) (p e : Int) : (rdS s p e).size ≤ s.size := by
 unfold rdS
 split
 ·
  exact cutS_size s p
 ·
  exact Nat.zero_le _
theorem rdLeaf_size (s : ByteArray) (p e : Int) (j : Nat) : (∀ x ∈ (rdLeaf s p e j).ks, x.size ≤ s.size) ∧ ∀ x ∈ (rdLeaf s p e j).vs, x.size ≤ s.size := by
 induction j with
 | zero => exact ⟨fun x h => (by cases h), fun x h => (by cases h)⟩
 | succ j ih =>
  simp only [rdLeaf]
  constructor
  ·
   intro x hx
   rcases List.mem_append.1 hx with h | h
   ·
    exact ih.1 x h
   ·
    obtain rfl : x = _ := by simpa using h
    exact rdS_size _ _ _
  ·
   intro x hx
   rcases List.mem_append.1 hx with h | h
   ·
    exact ih.2 x h
   ·
    obtain rfl : x = _ := by simpa using h
    exact rdS_size _ _ _
theorem rdInn_size (s : ByteArray) (p e : Int) (j : Nat) : ∀ x ∈ (rdInn s p e j).ks, x.size ≤ s.size := by
 induction j with
 | zero => exact fun x h => (by cases h)
 | succ j ih =>
  simp only [rdInn]
  intro x hx
  rcases List.mem_append.1 hx with h | h
  ·
   exact ih x h
  ·
   obtain rfl : x = _ := by simpa using h
   exact rdS_size _ _ _
def pushV (h i r H g n cap : Nat) (u x : Value) : Nat → Value
 | 0 => .pointer (some ⟨h, i, none⟩)
 | 1 => u
 | 2 => .pointer (some ⟨r, 0, none⟩)
 | 3 => x
 | 4 => .slice (some ⟨H, 0, none⟩) 1 1
 | 5 => .slice (some ⟨g, 0, none⟩) (n + 1) cap
 | 6 => .pointer (some ⟨h, i, none⟩)
 | _ => undef
def worlds5 (w0 w1 w2 w3 w4 : World) : Nat → World
 | 0 => w0
 | 1 => w1
 | 2 => w2
 | 3 => w3
 | _ => w4
theorem Box4.set1 {w : World} {h : Nat} {v0 v1 v2 v3 : Value} (b : Box4 w h v0 v1 v2 v3) (v : Value) : Box4 (w.setCell ⟨h, 1, none⟩ v) h v0 v v2 v3 := by
 obtain ⟨⟨c0, c1, c2, c3⟩, f0, f1, f2, f3⟩ := b
 refine ⟨⟨?_, World.cell?_setCell_same _ _ _ c1, ?_, ?_⟩, ?_, ?_, ?_, ?_⟩
 ·
  rw [World.cell?_setCell_other _ _ _ _ (fun hh => by cases hh)]; exact c0
 ·
  rw [World.cell?_setCell_other _ _ _ _ (fun hh => by cases hh)]; exact c2
 ·
  rw [World.cell?_setCell_other _ _ _ _ (fun hh => by cases hh)]; exact c3
 ·
  rw [World.frozen?_setCell]; exact f0
 ·
  rw [World.frozen?_setCell]; exact f1
 ·
  rw [World.frozen?_setCell]; exact f2
 ·
  rw [World.frozen?_setCell]; exact f3
theorem Box4.set2 {w : World} {h : Nat} {v0 v1 v2 v3 : Value} (b : Box4 w h v0 v1 v2 v3) (v : Value) : Box4 (w.setCell ⟨h, 2, none⟩ v) h v0 v1 v v3 := by
 obtain ⟨⟨c0, c1, c2, c3⟩, f0, f1, f2, f3⟩ := b
 refine ⟨⟨?_, ?_, World.cell?_setCell_same _ _ _ c2, ?_⟩, ?_, ?_, ?_, ?_⟩
 ·
  rw [World.cell?_setCell_other _ _ _ _ (fun hh => by cases hh)]; exact c0
 ·
  rw [World.cell?_setCell_other _ _ _ _ (fun hh => by cases hh)]; exact c1
 ·
  rw [World.cell?_setCell_other _ _ _ _ (fun hh => by cases hh)]; exact c3
 ·
  rw [World.frozen?_setCell]; exact f0
 ·
  rw [World.frozen?_setCell]; exact f1
 ·
  rw [World.frozen?_setCell]; exact f2
 ·
  rw [World.frozen?_setCell]; exact f3
theorem Box4.set3 {w : World} {h : Nat} {v0 v1 v2 v3 : Value} (b : Box4 w h v0 v1 v2 v3) (v : Value) : Box4 (w.setCell ⟨h, 3, none⟩ v) h v0 v1 v2 v := by
 obtain ⟨⟨c0, c1, c2, c3⟩, f0, f1, f2, f3⟩ := b
 refine ⟨⟨?_, ?_, ?_, World.cell?_setCell_same _ _ _ c3⟩, ?_, ?_, ?_, ?_⟩
 ·
  rw [World.cell?_setCell_other _ _ _ _ (fun hh => by cases hh)]; exact c0
 ·
  rw [World.cell?_setCell_other _ _ _ _ (fun hh => by cases hh)]; exact c1
 ·
  rw [World.cell?_setCell_other _ _ _ _ (fun hh => by cases hh)]; exact c2
 ·
  rw [World.frozen?_setCell]; exact f0
 ·
  rw [World.frozen?_setCell]; exact f1
 ·
  rw [World.frozen?_setCell]; exact f2
 ·
  rw [World.frozen?_setCell]; exact f3
theorem Box4.other {w : World} {h : Nat} {v0 v1 v2 v3 : Value} (b : Box4 w h v0 v1 v2 v3) {p : Addr} (hp : p.block ≠ h) (v : Value) : Box4 (w.setCell p v) h v0 v1 v2 v3 := by
 obtain ⟨⟨c0, c1, c2, c3⟩, f0, f1, f2, f3⟩ := b
 have ne : ∀ k, (⟨h, k, none⟩ : Addr) ≠ p := fun k e => hp (by rw [← e])
 refine ⟨⟨?_, ?_, ?_, ?_⟩, ?_, ?_, ?_, ?_⟩
 ·
  rw [World.cell?_setCell_other _ _ _ _ (fun hh => hp (by first | (rw [← hh]) | (rw [hh])))]; exact c0
 ·
  rw [World.cell?_setCell_other _ _ _ _ (fun hh => hp (by first | (rw [← hh]) | (rw [hh])))]; exact c1
 ·
  rw [World.cell?_setCell_other _ _ _ _ (fun hh => hp (by first | (rw [← hh]) | (rw [hh])))]; exact c2
 ·
  rw [World.cell?_setCell_other _ _ _ _ (fun hh => hp (by first | (rw [← hh]) | (rw [hh])))]; exact c3
 ·
  rw [World.frozen?_setCell]; exact f0
 ·
  rw [World.frozen?_setCell]; exact f1
 ·
  rw [World.frozen?_setCell]; exact f2
 ·
  rw [World.frozen?_setCell]; exact f3
theorem Box4.put {w : World} {h : Nat} {v0 v1 v2 v3 : Value} (b : Box4 w h v0 v1 v2 v3) (u0 u1 u2 u3 : Value) : Box4 ((((w.setCell ⟨h, 0, none⟩ u0).setCell ⟨h, 1, none⟩ u1).setCell ⟨h, 2, none⟩ u2).setCell ⟨h, 3, none⟩ u3) h u0 u1 u2 u3 := by
 have b0 : Box4 (w.setCell ⟨h, 0, none⟩ u0) h u0 v1 v2 v3 := by
  obtain ⟨⟨c0, c1, c2, c3⟩, f0, f1, f2, f3⟩ := b
  refine ⟨⟨World.cell?_setCell_same _ _ _ c0, ?_, ?_, ?_⟩, ?_, ?_, ?_, ?_⟩
  ·
   rw [World.cell?_setCell_other _ _ _ _ (fun hh => by cases hh)]; exact c1
  ·
   rw [World.cell?_setCell_other _ _ _ _ (fun hh => by cases hh)]; exact c2
  ·
   rw [World.cell?_setCell_other _ _ _ _ (fun hh => by cases hh)]; exact c3
  ·
   rw [World.frozen?_setCell]; exact f0
  ·
   rw [World.frozen?_setCell]; exact f1
  ·
   rw [World.frozen?_setCell]; exact f2
  ·
   rw [World.frozen?_setCell]; exact f3
 exact ((b0.set1 u1).set2 u2).set3 u3
theorem below_put4 {w W : World} {h : Nat} (hB : Below w.heap.size w W) (hh : w.heap.size ≤ h) (u0 u1 u2 u3 : Value) : Below w.heap.size w ((((W.setCell ⟨h, 0, none⟩ u0).setCell ⟨h, 1, none⟩ u1).setCell ⟨h, 2, none⟩ u2).setCell ⟨h, 3, none⟩ u3) :=
 (((hB.setCell (p := ⟨h, 0, none⟩) hh _).setCell (p := ⟨h, 1, none⟩) hh _).setCell (p := ⟨h, 2, none⟩) hh _).setCell (p := ⟨h, 3, none⟩) hh _
theorem NodeAt.read1 {w : World} {h B r : Nat} {l : Bool} {u1 u2 u3 : Value} {xs ys : List ByteArray} {zs : List Int} {s : ByteArray} {p e : Int} (n : NodeAt w h B l u1 u2 u3 xs ys zs) (b : Box3 w r (.string s) (.int .i64 p) (.int .i64 e)) (hr : r < B) (hne : r ≠ h) (hs : s.size ≤ maxLen) (hl : xs.length ≤ 4096) :
  ∃ V1 g cap V3 V4, Calls Try.prog 75 #[.pointer (some ⟨r, 0, none⟩)] w (fun c w' => c = .returned (.string (rdS s p e)) ∧ w' = V1) ∧ Box4 w h (.bool l) u1 u2 u3 ∧ Box4 V1 h (.bool l) u1 u2 u3 ∧ Box4 (V1.alloc (.cells #[.string (rdS s p e)] 9)) h (.bool l) u1 u2 u3 ∧
   (Builtin.append_ #[25, 25] 25 #[u1, .slice (some ⟨V1.heap.size, 0, none⟩) 1 1]).run Try.prog (V1.alloc (.cells #[.string (rdS s p e)] 9)) = .ok (.slice (some ⟨g, 0, none⟩) (xs.length + 1) cap) V3 ∧ Box4 V3 h (.bool l) u1 u2 u3 ∧
   V3.setCell ⟨h, 1, none⟩ (.slice (some ⟨g, 0, none⟩) (xs.length + 1) cap) = V4 ∧ NodeAt V4 h B l (.slice (some ⟨g, 0, none⟩) (xs.length + 1) cap) u2 u3 (xs ++ [rdS s p e]) ys zs ∧ Box3 V4 r (.string s) (.int .i64 (rdP s p e)) (.int .i64 (rdE s p e)) ∧ Turns (fun k => k = r ∨ Own h B k) w V4 := by
 obtain ⟨V1, b1, t1, _, c1⟩ := rtext_any r s p e w b hs
 have n1 : NodeAt V1 h B l u1 u2 u3 xs ys zs := n.turns t1 (fun e => hne e.symm) (fun k e => by omega)
 obtain ⟨g, cap, V3, hrun, b3, n4, t4⟩ := n1.push1 (rdS s p e) hl
 refine ⟨V1, g, cap, V3, _, c1, n.box, n1.box, (n1.alloc _).box, hrun, b3, rfl, n4, b1.turns t4 ?_, (t1.mono fun k e => .inl e).trans (t4.mono fun k e => .inr e)⟩
 rintro (e | e)
 ·
  exact hne e
 ·
  omega
theorem NodeAt.read2 {w : World} {h B r : Nat} {l : Bool} {u1 u2 u3 : Value} {xs ys : List ByteArray} {zs : List Int} {s : ByteArray} {p e : Int} (n : NodeAt w h B l u1 u2 u3 xs ys zs) (b : Box3 w r (.string s) (.int .i64 p) (.int .i64 e)) (hr : r < B) (hne : r ≠ h) (hs : s.size ≤ maxLen) (hl : ys.length ≤ 4096) :
  ∃ V1 g cap V3 V4, Calls Try.prog 75 #[.pointer (some ⟨r, 0, none⟩)] w (fun c w' => c = .returned (.string (rdS s p e)) ∧ w' = V1) ∧ Box4 w h (.bool l) u1 u2 u3 ∧ Box4 V1 h (.bool l) u1 u2 u3 ∧ Box4 (V1.alloc (.cells #[.string (rdS s p e)] 9)) h (.bool l) u1 u2 u3 ∧
   (Builtin.append_ #[25, 25] 25 #[u2, .slice (some ⟨V1.heap.size, 0, none⟩) 1 1]).run Try.prog (V1.alloc (.cells #[.string (rdS s p e)] 9)) = .ok (.slice (some ⟨g, 0, none⟩) (ys.length + 1) cap) V3 ∧ Box4 V3 h (.bool l) u1 u2 u3 ∧
   V3.setCell ⟨h, 2, none⟩ (.slice (some ⟨g, 0, none⟩) (ys.length + 1) cap) = V4 ∧ NodeAt V4 h B l u1 (.slice (some ⟨g, 0, none⟩) (ys.length + 1) cap) u3 xs (ys ++ [rdS s p e]) zs ∧ Box3 V4 r (.string s) (.int .i64 (rdP s p e)) (.int .i64 (rdE s p e)) ∧ Turns (fun k => k = r ∨ Own h B k) w V4 := by
 obtain ⟨V1, b1, t1, _, c1⟩ := rtext_any r s p e w b hs
 have n1 : NodeAt V1 h B l u1 u2 u3 xs ys zs := n.turns t1 (fun e => hne e.symm) (fun k e => by omega)
 obtain ⟨g, cap, V3, hrun, b3, n4, t4⟩ := n1.push2 (rdS s p e) hl
 refine ⟨V1, g, cap, V3, _, c1, n.box, n1.box, (n1.alloc _).box, hrun, b3, rfl, n4, b1.turns t4 ?_, (t1.mono fun k e => .inl e).trans (t4.mono fun k e => .inr e)⟩
 rintro (e | e)
 ·
  exact hne e
 ·
  omega
theorem NodeAt.read3 {w : World} {h B r : Nat} {l : Bool} {u1 u2 u3 : Value} {xs ys : List ByteArray} {zs : List Int} {s : ByteArray} {p e : Int} (n : NodeAt w h B l u1 u2 u3 xs ys zs) (b : Box3 w r (.string s) (.int .i64 p) (.int .i64 e)) (hr : r < B) (hne : r ≠ h) (hs : s.size ≤ maxLen) (hl : zs.length ≤ 4096) :
  ∃ V1 g cap V3 V4, Calls Try.prog 62 #[.pointer (some ⟨r, 0, none⟩), .int .i64 2] w (fun c w' => c = .returned (.int .i64 (rnR s p e 2)) ∧ w' = V1) ∧ Box4 w h (.bool l) u1 u2 u3 ∧ Box4 V1 h (.bool l) u1 u2 u3 ∧ Box4 (V1.alloc (.cells #[.int .i64 (rnR s p e 2)] 3)) h (.bool l) u1 u2 u3 ∧
   (Builtin.append_ #[28, 28] 28 #[u3, .slice (some ⟨V1.heap.size, 0, none⟩) 1 1]).run Try.prog (V1.alloc (.cells #[.int .i64 (rnR s p e 2)] 3)) = .ok (.slice (some ⟨g, 0, none⟩) (zs.length + 1) cap) V3 ∧ Box4 V3 h (.bool l) u1 u2 u3 ∧
   V3.setCell ⟨h, 3, none⟩ (.slice (some ⟨g, 0, none⟩) (zs.length + 1) cap) = V4 ∧ NodeAt V4 h B l u1 u2 (.slice (some ⟨g, 0, none⟩) (zs.length + 1) cap) xs ys (zs ++ [rnR s p e 2]) ∧ Box3 V4 r (.string s) (.int .i64 (rnP s p e 2)) (.int .i64 (rnE s p e 2)) ∧ Turns (fun k => k = r ∨ Own h B k) w V4 := by
 obtain ⟨V1, b1, t1, _, c1⟩ := rnumber_any r s p e 2 w b hs
 have n1 : NodeAt V1 h B l u1 u2 u3 xs ys zs := n.turns t1 (fun e => hne e.symm) (fun k e => by omega)
 obtain ⟨g, cap, V3, hrun, b3, n4, t4⟩ := n1.push3 (rnR s p e 2) hl
 refine ⟨V1, g, cap, V3, _, c1, n.box, n1.box, (n1.alloc _).box, hrun, b3, rfl, n4, b1.turns t4 ?_, (t1.mono fun k e => .inl e).trans (t4.mono fun k e => .inr e)⟩
 rintro (e | e)
 ·
  exact hne e
 ·
  omega
theorem turns_put4 (w : World) (h : Nat) (u0 u1 u2 u3 : Value) : Turns (fun k => k = h) w ((((w.setCell ⟨h, 0, none⟩ u0).setCell ⟨h, 1, none⟩ u1).setCell ⟨h, 2, none⟩ u2).setCell ⟨h, 3, none⟩ u3) :=
 Turns.setCell (P := fun k => k = h) (Turns.setCell (P := fun k => k = h) (Turns.setCell (P := fun k => k = h) (Turns.setCell (P := fun k => k = h) (Turns.refl _ _) (p := ⟨h, 0, none⟩) rfl u0) (p := ⟨h, 1, none⟩) rfl u1) (p := ⟨h, 2, none⟩) rfl u2) (p := ⟨h, 3, none⟩) rfl u3
theorem node_two (w : World) (t : TypeId) (l : Bool) (v3 : Value) :
  ∃ W, W = (w.alloc (.cells #[.bool false, .slice none 0 0, .slice none 0 0, .slice none 0 0] t)).alloc (.cells #[.bool l, .slice none 0 0, .slice none 0 0, v3] t) ∧
   Box4 W w.heap.size (.bool false) (.slice none 0 0) (.slice none 0 0) (.slice none 0 0) ∧ Box4 W (w.heap.size + 1) (.bool l) (.slice none 0 0) (.slice none 0 0) v3 ∧ Below w.heap.size w W ∧ W.heap.size = w.heap.size + 2 :=
 ⟨_, rfl, (box4_new w _ _ _ _ t rfl).alloc _, box4_new _ _ _ _ _ t (by simp), ((Below.refl _ _).alloc (Nat.le_refl _) _).alloc (by simp) _, by simp⟩
set_option maxRecDepth 20000 in
set_option maxHeartbeats 4000000 in
theorem rleaf_any (r c : Nat) (s : ByteArray) (p e : Int) (w : World) (b : Box3 w r (.string s) (.int .i64 p) (.int .i64 e)) (hs : s.size ≤ maxLen) (hc : c ≤ 255) :
  Calls Try.prog 63 #[.pointer (some ⟨r, 0, none⟩), .int .i64 c] w fun x w' => ∃ a d a' d', x = .returned (.agg #[.bool true, .slice a c d, .slice a' c d', .slice none 0 0]) ∧
   IsS w' a d (rdLeaf s p e c).ks ∧ IsS w' a' d' (rdLeaf s p e c).vs ∧ From w.heap.size a ∧ From w.heap.size a' ∧ Box3 w' r (.string s) (.int .i64 (rdLeaf s p e c).p) (.int .i64 (rdLeaf s p e c).e) ∧ Turns (fun k => k = r) w w' := by
 obtain ⟨W, hW, b0, bn, hB0, hsz⟩ := node_two w 62 true (.slice none 0 0)
 have hrw : r < w.heap.size := b.lt
 have N0 : NodeAt W (w.heap.size + 1) (w.heap.size + 2) true (.slice none 0 0) (.slice none 0 0) (.slice none 0 0) [] [] [] := nodeAt_new bn (by omega)
 have bW : Box3 W r (.string s) (.int .i64 p) (.int .i64 e) := b.below hB0
 have T0 : Turns (fun k => k = r ∨ w.heap.size ≤ k) w W := Turns.of_below hB0
 have HS : Hid (s.size ≤ maxLen) := hs
 clear b hs bn hB0 hsz
 go_enter Try.func63, Try.ntmps63
 go_wp2
 rw [← hW]
 clear hW
 go_loopw [8] (fun v wr => ∃ (j : Nat) (u1 u2 : Value), j ≤ c ∧ v = .int .i64 j ∧ NodeAt wr (w.heap.size + 1) (w.heap.size + 2) true u1 u2 (.slice none 0 0) (rdLeaf s p e j).ks (rdLeaf s p e j).vs [] ∧ Box3 wr r (.string s) (.int .i64 (rdLeaf s p e j).p) (.int .i64 (rdLeaf s p e j).e) ∧ Box4 wr w.heap.size (.bool false) (.slice none 0 0) (.slice none 0 0) (.slice none 0 0) ∧ Turns (fun k => k = r ∨ w.heap.size ≤ k) w wr) (fun v _ => c - (intOf v).toNat)
 case atStart => exact ⟨0, .slice none 0 0, .slice none 0 0, by omega, rfl, N0, bW, b0, T0⟩
 case round =>
  clear N0 bW b0 T0
  obtain ⟨j, u1, u2, hj, rfl, N, bR, b0, T⟩ := hrel
  obtain ⟨A, hA⟩ : ∃ A, A = rdLeaf s p e j := ⟨_, rfl⟩
  obtain ⟨l1, l2⟩ := rdLeaf_len s p e j
  rw [← hA] at N bR l1 l2
  have HA : Hid (A = rdLeaf s p e j) := hA
  have hl1 : A.ks.length ≤ 4096 := by omega
  have hl2 : A.vs.length ≤ 4096 := by omega
  have L1 : Hid (A.ks.length = j) := l1
  have L2 : Hid (A.vs.length = j) := l2
  clear hA l1 l2
  by_cases hlt : j < c
  ·
   have hlt' : (j : Int) < c := by omega
   obtain ⟨V0, hV0⟩ : ∃ V, V = wr.drew := ⟨_, rfl⟩
   replace N : NodeAt V0 (w.heap.size + 1) (w.heap.size + 2) true u1 u2 (.slice none 0 0) A.ks A.vs [] := by rw [hV0]; exact N.drew
   replace bR : Box3 V0 r (.string s) (.int .i64 A.p) (.int .i64 A.e) := by rw [hV0]; exact bR
   replace b0 : Box4 V0 w.heap.size (.bool false) (.slice none 0 0) (.slice none 0 0) (.slice none 0 0) := by rw [hV0]; exact b0.drew
   replace T : Turns (fun k => k = r ∨ w.heap.size ≤ k) w V0 := by rw [hV0]; exact T.drew
   obtain ⟨V1, g, cap, V3, V4, hcall3, x0, x1, x2, hrun5, x3, hst, N4, bR4, T4⟩ := N.read1 bR (by omega) (by omega) HS.out hl1
   have b04 := b0.turns T4 (by rintro (h | h | h) <;> omega)
   have T04 : Turns (fun k => k = r ∨ w.heap.size ≤ k) w V4 := T.trans (T4.mono fun k hk => by rcases hk with h | h | h <;> omega)
   obtain ⟨V5, hV5⟩ : ∃ V, V = V4.drew := ⟨_, rfl⟩
   replace N4 : NodeAt V5 (w.heap.size + 1) (w.heap.size + 2) true (.slice (some ⟨g, 0, none⟩) (A.ks.length + 1) cap) u2 (.slice none 0 0) (A.ks ++ [rdS s A.p A.e]) A.vs [] := by rw [hV5]; exact N4.drew
   replace bR4 : Box3 V5 r (.string s) (.int .i64 (rdP s A.p A.e)) (.int .i64 (rdE s A.p A.e)) := by rw [hV5]; exact bR4
   replace b04 : Box4 V5 w.heap.size (.bool false) (.slice none 0 0) (.slice none 0 0) (.slice none 0 0) := by rw [hV5]; exact b04.drew
   replace T04 : Turns (fun k => k = r ∨ w.heap.size ≤ k) w V5 := by rw [hV5]; exact T04.drew
   obtain ⟨U1, g', cap', U3, U4, hcall3', y0, y1, y2, hrun5', y3, hst', N8, bR8, T8⟩ := N4.read2 bR4 (by omega) (by omega) HS.out hl2
   have b08 := b04.turns T8 (by rintro (h | h | h) <;> omega)
   have T08 : Turns (fun k => k = r ∨ w.heap.size ≤ k) w U4 := T04.trans (T8.mono fun k hk => by rcases hk with h | h | h <;> omega)
   have hfin : Hid (NodeAt U4 (w.heap.size + 1) (w.heap.size + 2) true (.slice (some ⟨g, 0, none⟩) (A.ks.length + 1) cap) (.slice (some ⟨g', 0, none⟩) (A.vs.length + 1) cap') (.slice none 0 0) (rdLeaf s p e (j + 1)).ks (rdLeaf s p e (j + 1)).vs [] ∧ Box3 U4 r (.string s) (.int .i64 (rdLeaf s p e (j + 1)).p) (.int .i64 (rdLeaf s p e (j + 1)).e)) := by
    simp only [rdLeaf]
    rw [← HA.out]
    exact ⟨N8, bR8⟩
   have hfin2 : Hid (Box4 U4 w.heap.size (.bool false) (.slice none 0 0) (.slice none 0 0) (.slice none 0 0) ∧ Turns (fun k => k = r ∨ w.heap.size ≤ k) w U4) := ⟨b08, T08⟩
   have hst4 : Hid (V3.setCell ⟨w.heap.size + 1, 1, none⟩ (.slice (some ⟨g, 0, none⟩) (A.ks.length + 1) cap) = V4) := hst
   have HV0 : Hid (V0 = wr.drew) := hV0
   have HV5 : Hid (V5 = V4.drew) := hV5
   have HT' : Hid (U3.setCell ⟨w.heap.size + 1, 2, none⟩ (.slice (some ⟨g', 0, none⟩) (A.vs.length + 1) cap') = U4) := hst'
   obtain ⟨⟨q0, q1, q2, q3⟩, -⟩ := id x0
   obtain ⟨⟨q01, q11, q21, q31⟩, -⟩ := id x1
   obtain ⟨⟨q02, q12, q22, q32⟩, -⟩ := id x2
   obtain ⟨⟨q03, q13, q23, q33⟩, f0, f1, f2, f3⟩ := id x3
   generalize rdS s A.p A.e = key at *
   generalize rdS s (rdP s A.p A.e) (rdE s A.p A.e) = val at *
   clear N bR b0 T N4 bR4 b04 T04 N8 bR8 T8 b08 T08 T4 hst hst' hV0 hV5 x0 x1 x2 x3
   go_wp2
   refine region_worlds (by kernel_rfl) [3, 4, 5, 7] (pushV (w.heap.size + 1) 1 r V1.heap.size g A.ks.length cap u1 (.string key)) (worlds5 V0 V1 (V1.alloc (.cells #[.string key] 9)) V3 V4) (by kernel_rfl) (by kernel_rfl) HV0.out.symm ?step 8 rfl ?done
   case step =>
    intro i o ho kk a2 hkk hmay hdf hsz hdep hsame
    match i, ho with
    | 0, ho =>
     cases ho
     have h5 := (hsame 5 rfl)
     exact val_op rfl (wanted_free rfl) (by clear hdep hsame hsz hdf; (try simp only [pushV, worlds5]); go_simp) rfl rfl
    | 1, ho =>
     cases ho
     have h10 := (hdep 0 _ 10 rfl rfl rfl)
     simp only [pushV] at h10
     match kk, hkk, hmay with
     | 0, _, hq => first | (cases hq; done) | (exact val_op rfl (wanted_free rfl) (by clear hdep hsame hsz hdf; (try simp only [pushV, worlds5]); go_simp) rfl rfl)
     | 1, _, hq => first | (cases hq; done) | (exact val_op rfl (wanted_free rfl) (by clear hdep hsame hsz hdf; (try simp only [pushV, worlds5]); go_simp) rfl rfl)
     | 2, _, hq => first | (cases hq; done) | (exact val_op rfl (wanted_free rfl) (by clear hdep hsame hsz hdf; (try simp only [pushV, worlds5]); go_simp) rfl rfl)
     | 3, _, hq => first | (cases hq; done) | (exact val_op rfl (wanted_free rfl) (by clear hdep hsame hsz hdf; (try simp only [pushV, worlds5]); go_simp) rfl rfl)
     | 4, _, hq => first | (cases hq; done) | (exact val_op rfl (wanted_free rfl) (by clear hdep hsame hsz hdf; (try simp only [pushV, worlds5]); go_simp) rfl rfl)
     | kk + 5, hkk, _ => simp at hkk
    | 2, ho =>
     cases ho
     have h0 := (hsame 0 rfl)
     exact val_op rfl (wanted_free rfl) (by clear hdep hsame hsz hdf; (try simp only [pushV, worlds5]); go_simp) rfl rfl
    | 3, ho =>
     cases ho
     have h12 := (hdep 2 _ 12 rfl rfl rfl)
     simp only [pushV] at h12
     match kk, hkk, hmay with
     | 0, _, _ => exact val_call rfl (wanted_free rfl) (by clear hdep hsame hsz hdf; (try simp only [worlds5]); go_simp) (hcall3.mono fun e w hh => ⟨hh.1, hh.2⟩)
     | 1, _, hq => cases hq
     | 2, _, hq => cases hq
     | 3, _, hq => cases hq
     | 4, _, hq => cases hq
     | kk + 5, hkk, _ => simp at hkk
    | 4, ho =>
     cases ho
     have h13 := (hdep 3 _ 13 rfl rfl rfl)
     simp only [pushV] at h13
     match kk, hkk, hmay with
     | 0, _, hq => cases hq
     | 1, _, _ => exact val_op rfl (wanted_free rfl) (by clear hdep hsame hsz hdf; (try simp only [pushV, worlds5]); go_simp) rfl rfl
     | 2, _, hq => cases hq
     | 3, _, hq => cases hq
     | 4, _, hq => cases hq
     | kk + 5, hkk, _ => simp at hkk
    | 5, ho =>
     cases ho
     have h11 := eval_tmp (hdep 1 _ 11 rfl rfl rfl)
     have h14 := eval_tmp (hdep 4 _ 14 rfl rfl rfl)
     simp only [pushV] at h11 h14
     match kk, hkk, hmay with
     | 0, _, hq => cases hq
     | 1, _, hq => cases hq
     | 2, _, _ => exact val_append rfl (wanted_free rfl) rfl h11 h14 hrun5 rfl rfl
     | 3, _, hq => cases hq
     | 4, _, hq => cases hq
     | kk + 5, hkk, _ => simp at hkk
    | 6, ho =>
     cases ho
     have h5 := (hsame 5 rfl)
     exact val_op rfl (wanted_free rfl) (by clear hdep hsame hsz hdf; (try simp only [pushV, worlds5]); go_simp) rfl rfl
    | 7, ho =>
     cases ho
     have h16 := (hdep 6 _ 16 rfl rfl rfl)
     have h15 := (hdep 5 _ 15 rfl rfl rfl)
     simp only [pushV] at h16 h15
     match kk, hkk, hmay with
     | 0, _, hq => cases hq
     | 1, _, hq => cases hq
     | 2, _, hq => cases hq
     | 3, _, _ => exact val_skip rfl (wanted_free rfl) rfl (by clear hdep hsame hsz hdf; simp only [worlds5]; go_simp; try exact hst4.out) rfl
     | 4, _, hq => cases hq
     | kk + 5, hkk, _ => simp at hkk
    | kk + 8, ho => simp at ho
   case done =>
    simp [filledN, pushV, worlds5]
    clear q0 q1 q2 q3 q01 q11 q21 q31 q02 q12 q22 q32 q03 q13 q23 q33 f0 f1 f2 f3 hcall3 hrun5 hst4 HV0
    have hcall3 := hcall3'
    have hrun5 := hrun5'
    have hst4 := HT'
    obtain ⟨⟨q0, q1, q2, q3⟩, -⟩ := id y0
    obtain ⟨⟨q01, q11, q21, q31⟩, -⟩ := id y1
    obtain ⟨⟨q02, q12, q22, q32⟩, -⟩ := id y2
    obtain ⟨⟨q03, q13, q23, q33⟩, f0, f1, f2, f3⟩ := id y3
    clear hcall3' hrun5' HT' y0 y1 y2 y3
    go_wp2
    refine region_worlds (by kernel_rfl) [3, 4, 5, 7] (pushV (w.heap.size + 1) 2 r U1.heap.size g' A.vs.length cap' u2 (.string val)) (worlds5 V5 U1 (U1.alloc (.cells #[.string val] 9)) U3 U4) (by kernel_rfl) (by kernel_rfl) HV5.out.symm ?step2 8 rfl ?done2
    case step2 =>
     intro i o ho kk a2 hkk hmay hdf hsz hdep hsame
     match i, ho with
     | 0, ho =>
      cases ho
      have h5 := (hsame 5 rfl)
      exact val_op rfl (wanted_free rfl) (by clear hdep hsame hsz hdf; (try simp only [pushV, worlds5]); go_simp) rfl rfl
     | 1, ho =>
      cases ho
      have h17 := (hdep 0 _ 17 rfl rfl rfl)
      simp only [pushV] at h17
      match kk, hkk, hmay with
      | 0, _, hq => first | (cases hq; done) | (exact val_op rfl (wanted_free rfl) (by clear hdep hsame hsz hdf; (try simp only [pushV, worlds5]); go_simp) rfl rfl)
      | 1, _, hq => first | (cases hq; done) | (exact val_op rfl (wanted_free rfl) (by clear hdep hsame hsz hdf; (try simp only [pushV, worlds5]); go_simp) rfl rfl)
      | 2, _, hq => first | (cases hq; done) | (exact val_op rfl (wanted_free rfl) (by clear hdep hsame hsz hdf; (try simp only [pushV, worlds5]); go_simp) rfl rfl)
      | 3, _, hq => first | (cases hq; done) | (exact val_op rfl (wanted_free rfl) (by clear hdep hsame hsz hdf; (try simp only [pushV, worlds5]); go_simp) rfl rfl)
      | 4, _, hq => first | (cases hq; done) | (exact val_op rfl (wanted_free rfl) (by clear hdep hsame hsz hdf; (try simp only [pushV, worlds5]); go_simp) rfl rfl)
      | kk + 5, hkk, _ => simp at hkk
     | 2, ho =>
      cases ho
      have h0 := (hsame 0 rfl)
      exact val_op rfl (wanted_free rfl) (by clear hdep hsame hsz hdf; (try simp only [pushV, worlds5]); go_simp) rfl rfl
     | 3, ho =>
      cases ho
      have h19 := (hdep 2 _ 19 rfl rfl rfl)
      simp only [pushV] at h19
      match kk, hkk, hmay with
      | 0, _, _ => exact val_call rfl (wanted_free rfl) (by clear hdep hsame hsz hdf; (try simp only [worlds5]); go_simp) (hcall3.mono fun e w hh => ⟨hh.1, hh.2⟩)
      | 1, _, hq => cases hq
      | 2, _, hq => cases hq
      | 3, _, hq => cases hq
      | 4, _, hq => cases hq
      | kk + 5, hkk, _ => simp at hkk
     | 4, ho =>
      cases ho
      have h20 := (hdep 3 _ 20 rfl rfl rfl)
      simp only [pushV] at h20
      match kk, hkk, hmay with
      | 0, _, hq => cases hq
      | 1, _, _ => exact val_op rfl (wanted_free rfl) (by clear hdep hsame hsz hdf; (try simp only [pushV, worlds5]); go_simp) rfl rfl
      | 2, _, hq => cases hq
      | 3, _, hq => cases hq
      | 4, _, hq => cases hq
      | kk + 5, hkk, _ => simp at hkk
     | 5, ho =>
      cases ho
      have h18 := eval_tmp (hdep 1 _ 18 rfl rfl rfl)
      have h21 := eval_tmp (hdep 4 _ 21 rfl rfl rfl)
      simp only [pushV] at h18 h21
      match kk, hkk, hmay with
      | 0, _, hq => cases hq
      | 1, _, hq => cases hq
      | 2, _, _ => exact val_append rfl (wanted_free rfl) rfl h18 h21 hrun5 rfl rfl
      | 3, _, hq => cases hq
      | 4, _, hq => cases hq
      | kk + 5, hkk, _ => simp at hkk
     | 6, ho =>
      cases ho
      have h5 := (hsame 5 rfl)
      exact val_op rfl (wanted_free rfl) (by clear hdep hsame hsz hdf; (try simp only [pushV, worlds5]); go_simp) rfl rfl
     | 7, ho =>
      cases ho
      have h23 := (hdep 6 _ 23 rfl rfl rfl)
      have h22 := (hdep 5 _ 22 rfl rfl rfl)
      simp only [pushV] at h23 h22
      match kk, hkk, hmay with
      | 0, _, hq => cases hq
      | 1, _, hq => cases hq
      | 2, _, hq => cases hq
      | 3, _, _ => exact val_skip rfl (wanted_free rfl) rfl (by clear hdep hsame hsz hdf; simp only [worlds5]; go_simp; try exact hst4.out) rfl
      | 4, _, hq => cases hq
      | kk + 5, hkk, _ => simp at hkk
     | kk + 8, ho => simp at ho
    case done2 =>
     simp [filledN, pushV, worlds5]
     clear q0 q1 q2 q3 q01 q11 q21 q31 q02 q12 q22 q32 q03 q13 q23 q33 f0 f1 f2 f3 hcall3 hrun5 hst4 HV5
     go_wp2
     go_roundw
     case rel => exact ⟨j + 1, _, _, by omega, by go_num, hfin.out.1, hfin.out.2, hfin2.out.1, hfin2.out.2⟩
     case measure => simp [intOf]; omega
  ·
   obtain rfl : j = c := by omega
   obtain ⟨z1, z2⟩ := rdLeaf_size s p e j
   rw [← HA.out] at z1 z2
   obtain ⟨a, d, a', d', a'', d'', rfl, rfl, e3, i1, i2, i3, -, -, -⟩ := N.rows (fun x hx => Nat.le_trans (z1 x hx) HS.out) (fun x hx => Nat.le_trans (z2 x hx) HS.out)
   have NH : Hid (NodeAt wr (w.heap.size + 1) (w.heap.size + 2) true (.slice a A.ks.length d) (.slice a' A.vs.length d') (.slice none 0 0) A.ks A.vs []) := N
   have BH : Hid (Box3 wr r (.string s) (.int .i64 A.p) (.int .i64 A.e)) := bR
   have TH : Hid (Turns (fun k => k = r ∨ w.heap.size ≤ k) w wr) := T
   have Z1 : Hid (∀ x ∈ A.ks, x.size ≤ maxLen) := fun x hx => Nat.le_trans (z1 x hx) HS.out
   have Z2 : Hid (∀ x ∈ A.vs, x.size ≤ maxLen) := fun x hx => Nat.le_trans (z2 x hx) HS.out
   obtain ⟨⟨q0, q1, q2, q3⟩, -⟩ := N.box
   obtain ⟨⟨r0, r1, r2, r3⟩, g0, g1, g2, g3⟩ := id b0
   clear N bR T z1 z2 i1 i2 i3 e3
   go_wp2
   have N4 : NodeAt ((((wr.setCell ⟨w.heap.size, 0, none⟩ (.bool true)).setCell ⟨w.heap.size, 1, none⟩ (.slice a A.ks.length d)).setCell ⟨w.heap.size, 2, none⟩ (.slice a' A.vs.length d')).setCell ⟨w.heap.size, 3, none⟩ (.slice none 0 0)) (w.heap.size + 1) (w.heap.size + 2) true (.slice a A.ks.length d) (.slice a' A.vs.length d') (.slice none 0 0) A.ks A.vs [] :=
    (((NH.out.other (by omega) (by omega) 0 _).other (by omega) (by omega) 1 _).other (by omega) (by omega) 2 _).other (by omega) (by omega) 3 _
   have T4 : Turns (fun k => k = w.heap.size) wr ((((wr.setCell ⟨w.heap.size, 0, none⟩ (.bool true)).setCell ⟨w.heap.size, 1, none⟩ (.slice a A.ks.length d)).setCell ⟨w.heap.size, 2, none⟩ (.slice a' A.vs.length d')).setCell ⟨w.heap.size, 3, none⟩ (.slice none 0 0)) := turns_put4 wr w.heap.size _ _ _ _
   obtain ⟨b, k, b', k', b'', k'', e1, e2, e3, i1, i2, i3, j1, j2, j3⟩ := N4.rows Z1.out Z2.out
   cases e1
   cases e2
   have l1 := L1.out
   have l2 := L2.out
   refine bodyPost_ret (v := .agg #[.bool true, .slice a j d, .slice a' j d', .slice none 0 0]) (by simp [results, Try.results63, go_sem, r0, r1, r2, r3, l1, l2]) rfl ⟨a, d, a', d', rfl, by rw [← HA.out]; exact i1, by rw [← HA.out]; exact i2, j1.mono (by omega), j2.mono (by omega), by rw [← HA.out]; exact BH.out.turns T4 (by omega), ?_⟩
   exact (TH.out.trans (T4.mono fun k hk => .inr (by omega))).mono' fun k hk hh => by rcases hh with h | h <;> omega
set_option maxRecDepth 20000 in
set_option maxHeartbeats 4000000 in
theorem rinner_any (r c : Nat) (s : ByteArray) (p e : Int) (w : World) (b : Box3 w r (.string s) (.int .i64 p) (.int .i64 e)) (hs : s.size ≤ maxLen) (hc : c ≤ 255) :
  Calls Try.prog 64 #[.pointer (some ⟨r, 0, none⟩), .int .i64 c] w fun x w' => ∃ a d a'' d'', x = .returned (.agg #[.bool false, .slice a c d, .slice none 0 0, .slice a'' (c + 1) d'']) ∧
   IsS w' a d (rdInn s p e c).ks ∧ IsI w' a'' d'' (rdInn s p e c).cs ∧ From w.heap.size a ∧ From w.heap.size a'' ∧ Box3 w' r (.string s) (.int .i64 (rdInn s p e c).p) (.int .i64 (rdInn s p e c).e) ∧ Turns (fun k => k = r) w w' := by
 have hrw : r < w.heap.size := b.lt
 obtain ⟨W0, hW0⟩ : ∃ W0, W0 = w.alloc (.cells #[.bool false, .slice none 0 0, .slice none 0 0, .slice none 0 0] 62) := ⟨_, rfl⟩
 have b00 : Box4 W0 w.heap.size (.bool false) (.slice none 0 0) (.slice none 0 0) (.slice none 0 0) := by rw [hW0]; exact box4_new _ _ _ _ _ _ rfl
 have hB00 : Below w.heap.size w W0 := by rw [hW0]; exact (Below.refl _ _).alloc (Nat.le_refl _) _
 have hz0 : W0.heap.size = w.heap.size + 1 := by rw [hW0]; simp
 obtain ⟨V1, b1, t1, hsz, c1⟩ := rnumber_any r s p e 2 W0 (b.below hB00) hs
 obtain ⟨x, hx⟩ : ∃ x, x = rnR s p e 2 := ⟨_, rfl⟩
 rw [← hx] at c1
 obtain ⟨W, hW⟩ : ∃ W, W = (V1.alloc (.cells #[.int .i64 x] 3)).alloc (.cells #[.bool false, .slice none 0 0, .slice none 0 0, .slice (some ⟨V1.heap.size, 0, none⟩) 1 1] 62) := ⟨_, rfl⟩
 have hBW : Below V1.heap.size V1 W := by rw [hW]; exact ((Below.refl _ _).alloc (Nat.le_refl _) _).alloc (by simp) _
 have bW : Box3 W r (.string s) (.int .i64 (rdInn s p e 0).p) (.int .i64 (rdInn s p e 0).e) := b1.below hBW
 have b0 : Box4 W w.heap.size (.bool false) (.slice none 0 0) (.slice none 0 0) (.slice none 0 0) := (b00.turns t1 (by omega)).below hBW
 have T0 : Turns (fun k => k = r ∨ w.heap.size ≤ k) w W := ((Turns.of_below hB00).trans (t1.mono fun k hk => .inl hk)).tr hBW
 have hrow : W.ownsRow V1.heap.size 3 1 (.slice (some ⟨V1.heap.size, 0, none⟩) 1 1) 1 ([x].map (Value.int .i64)) := by
  rw [hW]
  exact (World.ownsRow_lit (base := V1.heap.size) (e := 3) (size := 1) V1 #[.int .i64 x] 1 (Nat.le_refl _) (by unfold maxLen; omega) rfl).alloc _
 have N0 : NodeAt W (V1.heap.size + 1) V1.heap.size false (.slice none 0 0) (.slice none 0 0) (.slice (some ⟨V1.heap.size, 0, none⟩) 1 1) (rdInn s p e 0).ks [] (rdInn s p e 0).cs := by
  refine ⟨by rw [hW]; exact box4_new _ _ _ _ _ _ (by simp), World.ownsRow_nil _ _ _ _, World.ownsRow_nil _ _ _ _, ?_, apart_nil _ _, apart_nil _ _, apart_nil _ _, off_nil _ _, off_nil _ _, ?_, hBW.size⟩
  ·
   simp only [rdInn]
   rw [← hx]
   exact hrow
  ·
   intro g hg
   simp [Value.ownBlock] at hg
   omega
 have HS : Hid (s.size ≤ maxLen) := hs
 have hbw : w.heap.size < V1.heap.size := by omega
 clear b hs hBW b1 t1 b00 hB00 hsz hrow hz0 hx
 go_enter Try.func64, Try.ntmps64
 go_wp2_with (go_at_call 62; rw [← hW0]; refine c1.mono ?_; rintro y w1 ⟨rfl, hw1⟩; have hw1' := hw1.symm; subst hw1'; clear hw1)
 rw [← hW]
 clear hW c1
 generalize V1.heap.size = B at *
 go_loopw [11] (fun v wr => ∃ (j : Nat) (u1 u3 : Value), j ≤ c ∧ v = .int .i64 j ∧ NodeAt wr (B + 1) B false u1 (.slice none 0 0) u3 (rdInn s p e j).ks [] (rdInn s p e j).cs ∧ Box3 wr r (.string s) (.int .i64 (rdInn s p e j).p) (.int .i64 (rdInn s p e j).e) ∧ Box4 wr w.heap.size (.bool false) (.slice none 0 0) (.slice none 0 0) (.slice none 0 0) ∧ Turns (fun k => k = r ∨ w.heap.size ≤ k) w wr) (fun v _ => c - (intOf v).toNat)
 case atStart => exact ⟨0, .slice none 0 0, _, by omega, rfl, N0, bW, b0, T0⟩
 case round =>
  clear N0 bW b0 T0
  obtain ⟨j, u1, u3, hj, rfl, N, bR, b0, T⟩ := hrel
  obtain ⟨A, hA⟩ : ∃ A, A = rdInn s p e j := ⟨_, rfl⟩
  obtain ⟨l1, l2⟩ := rdInn_len s p e j
  rw [← hA] at N bR l1 l2
  have HA : Hid (A = rdInn s p e j) := hA
  have hl1 : A.ks.length ≤ 4096 := by omega
  have hl2 : A.cs.length ≤ 4096 := by omega
  have L1 : Hid (A.ks.length = j) := l1
  have L2 : Hid (A.cs.length = j + 1) := l2
  clear hA l1 l2
  by_cases hlt : j < c
  ·
   have hlt' : (j : Int) < c := by omega
   obtain ⟨V0, hV0⟩ : ∃ V, V = wr.drew := ⟨_, rfl⟩
   replace N : NodeAt V0 (B + 1) B false u1 (.slice none 0 0) u3 A.ks [] A.cs := by rw [hV0]; exact N.drew
   replace bR : Box3 V0 r (.string s) (.int .i64 A.p) (.int .i64 A.e) := by rw [hV0]; exact bR
   replace b0 : Box4 V0 w.heap.size (.bool false) (.slice none 0 0) (.slice none 0 0) (.slice none 0 0) := by rw [hV0]; exact b0.drew
   replace T : Turns (fun k => k = r ∨ w.heap.size ≤ k) w V0 := by rw [hV0]; exact T.drew
   obtain ⟨V1, g, cap, V3, V4, hcall3, x0, x1, x2, hrun5, x3, hst, N4, bR4, T4⟩ := N.read1 bR (by omega) (by omega) HS.out hl1
   have b04 := b0.turns T4 (by rintro (h | h | h) <;> omega)
   have T04 : Turns (fun k => k = r ∨ w.heap.size ≤ k) w V4 := T.trans (T4.mono fun k hk => by rcases hk with h | h | h <;> omega)
   obtain ⟨V5, hV5⟩ : ∃ V, V = V4.drew := ⟨_, rfl⟩
   replace N4 : NodeAt V5 (B + 1) B false (.slice (some ⟨g, 0, none⟩) (A.ks.length + 1) cap) (.slice none 0 0) u3 (A.ks ++ [rdS s A.p A.e]) [] A.cs := by rw [hV5]; exact N4.drew
   replace bR4 : Box3 V5 r (.string s) (.int .i64 (rdP s A.p A.e)) (.int .i64 (rdE s A.p A.e)) := by rw [hV5]; exact bR4
   replace b04 : Box4 V5 w.heap.size (.bool false) (.slice none 0 0) (.slice none 0 0) (.slice none 0 0) := by rw [hV5]; exact b04.drew
   replace T04 : Turns (fun k => k = r ∨ w.heap.size ≤ k) w V5 := by rw [hV5]; exact T04.drew
   obtain ⟨U1, g', cap', U3, U4, hcall3', y0, y1, y2, hrun5', y3, hst', N8, bR8, T8⟩ := N4.read3 bR4 (by omega) (by omega) HS.out hl2
   have b08 := b04.turns T8 (by rintro (h | h | h) <;> omega)
   have T08 : Turns (fun k => k = r ∨ w.heap.size ≤ k) w U4 := T04.trans (T8.mono fun k hk => by rcases hk with h | h | h <;> omega)
   have hfin : Hid (NodeAt U4 (B + 1) B false (.slice (some ⟨g, 0, none⟩) (A.ks.length + 1) cap) (.slice none 0 0) (.slice (some ⟨g', 0, none⟩) (A.cs.length + 1) cap') (rdInn s p e (j + 1)).ks [] (rdInn s p e (j + 1)).cs ∧ Box3 U4 r (.string s) (.int .i64 (rdInn s p e (j + 1)).p) (.int .i64 (rdInn s p e (j + 1)).e)) := by
    simp only [rdInn]
    rw [← HA.out]
    exact ⟨N8, bR8⟩
   have hfin2 : Hid (Box4 U4 w.heap.size (.bool false) (.slice none 0 0) (.slice none 0 0) (.slice none 0 0) ∧ Turns (fun k => k = r ∨ w.heap.size ≤ k) w U4) := ⟨b08, T08⟩
   have hst4 : Hid (V3.setCell ⟨B + 1, 1, none⟩ (.slice (some ⟨g, 0, none⟩) (A.ks.length + 1) cap) = V4) := hst
   have HV0 : Hid (V0 = wr.drew) := hV0
   have HV5 : Hid (V5 = V4.drew) := hV5
   have HT' : Hid (U3.setCell ⟨B + 1, 3, none⟩ (.slice (some ⟨g', 0, none⟩) (A.cs.length + 1) cap') = U4) := hst'
   obtain ⟨⟨q0, q1, q2, q3⟩, -⟩ := id x0
   obtain ⟨⟨q01, q11, q21, q31⟩, -⟩ := id x1
   obtain ⟨⟨q02, q12, q22, q32⟩, -⟩ := id x2
   obtain ⟨⟨q03, q13, q23, q33⟩, f0, f1, f2, f3⟩ := id x3
   generalize rdS s A.p A.e = key at *
   generalize rnR s (rdP s A.p A.e) (rdE s A.p A.e) 2 = kid at *
   clear N bR b0 T N4 bR4 b04 T04 N8 bR8 T8 b08 T08 T4 hst hst' hV0 hV5 x0 x1 x2 x3
   go_wp2
   refine region_worlds (by kernel_rfl) [3, 4, 5, 7] (pushV (B + 1) 1 r V1.heap.size g A.ks.length cap u1 (.string key)) (worlds5 V0 V1 (V1.alloc (.cells #[.string key] 9)) V3 V4) (by kernel_rfl) (by kernel_rfl) HV0.out.symm ?step 8 rfl ?done
   case step =>
    intro i o ho kk a2 hkk hmay hdf hsz hdep hsame
    match i, ho with
    | 0, ho =>
     cases ho
     have h5 := (hsame 5 rfl)
     exact val_op rfl (wanted_free rfl) (by clear hdep hsame hsz hdf; (try simp only [pushV, worlds5]); go_simp) rfl rfl
    | 1, ho =>
     cases ho
     have h13 := (hdep 0 _ 13 rfl rfl rfl)
     simp only [pushV] at h13
     match kk, hkk, hmay with
     | 0, _, hq => first | (cases hq; done) | (exact val_op rfl (wanted_free rfl) (by clear hdep hsame hsz hdf; (try simp only [pushV, worlds5]); go_simp) rfl rfl)
     | 1, _, hq => first | (cases hq; done) | (exact val_op rfl (wanted_free rfl) (by clear hdep hsame hsz hdf; (try simp only [pushV, worlds5]); go_simp) rfl rfl)
     | 2, _, hq => first | (cases hq; done) | (exact val_op rfl (wanted_free rfl) (by clear hdep hsame hsz hdf; (try simp only [pushV, worlds5]); go_simp) rfl rfl)
     | 3, _, hq => first | (cases hq; done) | (exact val_op rfl (wanted_free rfl) (by clear hdep hsame hsz hdf; (try simp only [pushV, worlds5]); go_simp) rfl rfl)
     | 4, _, hq => first | (cases hq; done) | (exact val_op rfl (wanted_free rfl) (by clear hdep hsame hsz hdf; (try simp only [pushV, worlds5]); go_simp) rfl rfl)
     | kk + 5, hkk, _ => simp at hkk
    | 2, ho =>
     cases ho
     have h0 := (hsame 0 rfl)
     exact val_op rfl (wanted_free rfl) (by clear hdep hsame hsz hdf; (try simp only [pushV, worlds5]); go_simp) rfl rfl
    | 3, ho =>
     cases ho
     have h15 := (hdep 2 _ 15 rfl rfl rfl)
     simp only [pushV] at h15
     match kk, hkk, hmay with
     | 0, _, _ => exact val_call rfl (wanted_free rfl) (by clear hdep hsame hsz hdf; (try simp only [worlds5]); go_simp) (hcall3.mono fun e w hh => ⟨hh.1, hh.2⟩)
     | 1, _, hq => cases hq
     | 2, _, hq => cases hq
     | 3, _, hq => cases hq
     | 4, _, hq => cases hq
     | kk + 5, hkk, _ => simp at hkk
    | 4, ho =>
     cases ho
     have h16 := (hdep 3 _ 16 rfl rfl rfl)
     simp only [pushV] at h16
     match kk, hkk, hmay with
     | 0, _, hq => cases hq
     | 1, _, _ => exact val_op rfl (wanted_free rfl) (by clear hdep hsame hsz hdf; (try simp only [pushV, worlds5]); go_simp) rfl rfl
     | 2, _, hq => cases hq
     | 3, _, hq => cases hq
     | 4, _, hq => cases hq
     | kk + 5, hkk, _ => simp at hkk
    | 5, ho =>
     cases ho
     have h14 := eval_tmp (hdep 1 _ 14 rfl rfl rfl)
     have h17 := eval_tmp (hdep 4 _ 17 rfl rfl rfl)
     simp only [pushV] at h14 h17
     match kk, hkk, hmay with
     | 0, _, hq => cases hq
     | 1, _, hq => cases hq
     | 2, _, _ => exact val_append rfl (wanted_free rfl) rfl h14 h17 hrun5 rfl rfl
     | 3, _, hq => cases hq
     | 4, _, hq => cases hq
     | kk + 5, hkk, _ => simp at hkk
    | 6, ho =>
     cases ho
     have h5 := (hsame 5 rfl)
     exact val_op rfl (wanted_free rfl) (by clear hdep hsame hsz hdf; (try simp only [pushV, worlds5]); go_simp) rfl rfl
    | 7, ho =>
     cases ho
     have h19 := (hdep 6 _ 19 rfl rfl rfl)
     have h18 := (hdep 5 _ 18 rfl rfl rfl)
     simp only [pushV] at h19 h18
     match kk, hkk, hmay with
     | 0, _, hq => cases hq
     | 1, _, hq => cases hq
     | 2, _, hq => cases hq
     | 3, _, _ => exact val_skip rfl (wanted_free rfl) rfl (by clear hdep hsame hsz hdf; simp only [worlds5]; go_simp; try exact hst4.out) rfl
     | 4, _, hq => cases hq
     | kk + 5, hkk, _ => simp at hkk
    | kk + 8, ho => simp at ho
   case done =>
    simp [filledN, pushV, worlds5]
    clear q0 q1 q2 q3 q01 q11 q21 q31 q02 q12 q22 q32 q03 q13 q23 q33 f0 f1 f2 f3 hcall3 hrun5 hst4 HV0
    have hcall3 := hcall3'
    have hrun5 := hrun5'
    have hst4 := HT'
    obtain ⟨⟨q0, q1, q2, q3⟩, -⟩ := id y0
    obtain ⟨⟨q01, q11, q21, q31⟩, -⟩ := id y1
    obtain ⟨⟨q02, q12, q22, q32⟩, -⟩ := id y2
    obtain ⟨⟨q03, q13, q23, q33⟩, f0, f1, f2, f3⟩ := id y3
    clear hcall3' hrun5' HT' y0 y1 y2 y3
    go_wp2
    refine region_worlds (by kernel_rfl) [3, 4, 5, 7] (pushV (B + 1) 3 r U1.heap.size g' A.cs.length cap' u3 (.int .i64 kid)) (worlds5 V5 U1 (U1.alloc (.cells #[.int .i64 kid] 3)) U3 U4) (by kernel_rfl) (by kernel_rfl) HV5.out.symm ?step2 8 rfl ?done2
    case step2 =>
     intro i o ho kk a2 hkk hmay hdf hsz hdep hsame
     match i, ho with
     | 0, ho =>
      cases ho
      have h5 := (hsame 5 rfl)
      exact val_op rfl (wanted_free rfl) (by clear hdep hsame hsz hdf; (try simp only [pushV, worlds5]); go_simp) rfl rfl
     | 1, ho =>
      cases ho
      have h20 := (hdep 0 _ 20 rfl rfl rfl)
      simp only [pushV] at h20
      match kk, hkk, hmay with
      | 0, _, hq => first | (cases hq; done) | (exact val_op rfl (wanted_free rfl) (by clear hdep hsame hsz hdf; (try simp only [pushV, worlds5]); go_simp) rfl rfl)
      | 1, _, hq => first | (cases hq; done) | (exact val_op rfl (wanted_free rfl) (by clear hdep hsame hsz hdf; (try simp only [pushV, worlds5]); go_simp) rfl rfl)
      | 2, _, hq => first | (cases hq; done) | (exact val_op rfl (wanted_free rfl) (by clear hdep hsame hsz hdf; (try simp only [pushV, worlds5]); go_simp) rfl rfl)
      | 3, _, hq => first | (cases hq; done) | (exact val_op rfl (wanted_free rfl) (by clear hdep hsame hsz hdf; (try simp only [pushV, worlds5]); go_simp) rfl rfl)
      | 4, _, hq => first | (cases hq; done) | (exact val_op rfl (wanted_free rfl) (by clear hdep hsame hsz hdf; (try simp only [pushV, worlds5]); go_simp) rfl rfl)
      | kk + 5, hkk, _ => simp at hkk
     | 2, ho =>
      cases ho
      have h0 := (hsame 0 rfl)
      exact val_op rfl (wanted_free rfl) (by clear hdep hsame hsz hdf; (try simp only [pushV, worlds5]); go_simp) rfl rfl
     | 3, ho =>
      cases ho
      have h22 := (hdep 2 _ 22 rfl rfl rfl)
      simp only [pushV] at h22
      match kk, hkk, hmay with
      | 0, _, _ => exact val_call rfl (wanted_free rfl) (by clear hdep hsame hsz hdf; (try simp only [worlds5]); go_simp) (hcall3.mono fun e w hh => ⟨hh.1, hh.2⟩)
      | 1, _, hq => cases hq
      | 2, _, hq => cases hq
      | 3, _, hq => cases hq
      | 4, _, hq => cases hq
      | kk + 5, hkk, _ => simp at hkk
     | 4, ho =>
      cases ho
      have h23 := (hdep 3 _ 23 rfl rfl rfl)
      simp only [pushV] at h23
      match kk, hkk, hmay with
      | 0, _, hq => cases hq
      | 1, _, _ => exact val_op rfl (wanted_free rfl) (by clear hdep hsame hsz hdf; (try simp only [pushV, worlds5]); go_simp) rfl rfl
      | 2, _, hq => cases hq
      | 3, _, hq => cases hq
      | 4, _, hq => cases hq
      | kk + 5, hkk, _ => simp at hkk
     | 5, ho =>
      cases ho
      have h21 := eval_tmp (hdep 1 _ 21 rfl rfl rfl)
      have h24 := eval_tmp (hdep 4 _ 24 rfl rfl rfl)
      simp only [pushV] at h21 h24
      match kk, hkk, hmay with
      | 0, _, hq => cases hq
      | 1, _, hq => cases hq
      | 2, _, _ => exact val_append rfl (wanted_free rfl) rfl h21 h24 hrun5 rfl rfl
      | 3, _, hq => cases hq
      | 4, _, hq => cases hq
      | kk + 5, hkk, _ => simp at hkk
     | 6, ho =>
      cases ho
      have h5 := (hsame 5 rfl)
      exact val_op rfl (wanted_free rfl) (by clear hdep hsame hsz hdf; (try simp only [pushV, worlds5]); go_simp) rfl rfl
     | 7, ho =>
      cases ho
      have h26 := (hdep 6 _ 26 rfl rfl rfl)
      have h25 := (hdep 5 _ 25 rfl rfl rfl)
      simp only [pushV] at h26 h25
      match kk, hkk, hmay with
      | 0, _, hq => cases hq
      | 1, _, hq => cases hq
      | 2, _, hq => cases hq
      | 3, _, _ => exact val_skip rfl (wanted_free rfl) rfl (by clear hdep hsame hsz hdf; simp only [worlds5]; go_simp; try exact hst4.out) rfl
      | 4, _, hq => cases hq
      | kk + 5, hkk, _ => simp at hkk
     | kk + 8, ho => simp at ho
    case done2 =>
     simp [filledN, pushV, worlds5]
     clear q0 q1 q2 q3 q01 q11 q21 q31 q02 q12 q22 q32 q03 q13 q23 q33 f0 f1 f2 f3 hcall3 hrun5 hst4 HV5
     go_wp2
     go_roundw
     case rel => exact ⟨j + 1, _, _, by omega, by go_num, hfin.out.1, hfin.out.2, hfin2.out.1, hfin2.out.2⟩
     case measure => simp [intOf]; omega
  ·
   obtain rfl : j = c := by omega
   have z1 := rdInn_size s p e j
   rw [← HA.out] at z1
   obtain ⟨a, d, a', d', a'', d'', rfl, e2, rfl, i1, i2, i3, -, -, -⟩ := N.rows (fun x hx => Nat.le_trans (z1 x hx) HS.out) (fun x hx => by cases hx)
   have NH : Hid (NodeAt wr (B + 1) B false (.slice a A.ks.length d) (.slice none 0 0) (.slice a'' A.cs.length d'') A.ks [] A.cs) := N
   have BH : Hid (Box3 wr r (.string s) (.int .i64 A.p) (.int .i64 A.e)) := bR
   have TH : Hid (Turns (fun k => k = r ∨ w.heap.size ≤ k) w wr) := T
   have Z1 : Hid (∀ x ∈ A.ks, x.size ≤ maxLen) := fun x hx => Nat.le_trans (z1 x hx) HS.out
   obtain ⟨⟨q0, q1, q2, q3⟩, -⟩ := N.box
   obtain ⟨⟨r0, r1, r2, r3⟩, g0, g1, g2, g3⟩ := id b0
   clear N bR T z1 i1 i2 i3 e2
   go_wp2
   have N4 : NodeAt ((((wr.setCell ⟨w.heap.size, 0, none⟩ (.bool false)).setCell ⟨w.heap.size, 1, none⟩ (.slice a A.ks.length d)).setCell ⟨w.heap.size, 2, none⟩ (.slice none 0 0)).setCell ⟨w.heap.size, 3, none⟩ (.slice a'' A.cs.length d'')) (B + 1) B false (.slice a A.ks.length d) (.slice none 0 0) (.slice a'' A.cs.length d'') A.ks [] A.cs :=
    (((NH.out.other (by omega) (by omega) 0 _).other (by omega) (by omega) 1 _).other (by omega) (by omega) 2 _).other (by omega) (by omega) 3 _
   have T4 : Turns (fun k => k = w.heap.size) wr ((((wr.setCell ⟨w.heap.size, 0, none⟩ (.bool false)).setCell ⟨w.heap.size, 1, none⟩ (.slice a A.ks.length d)).setCell ⟨w.heap.size, 2, none⟩ (.slice none 0 0)).setCell ⟨w.heap.size, 3, none⟩ (.slice a'' A.cs.length d'')) := turns_put4 wr w.heap.size _ _ _ _
   obtain ⟨b, k, b', k', b'', k'', e1, e2, e3, i1, i2, i3, j1, j2, j3⟩ := N4.rows Z1.out (fun x hx => by cases hx)
   cases e1
   cases e3
   have l1 := L1.out
   have l2 := L2.out
   refine bodyPost_ret (v := .agg #[.bool false, .slice a j d, .slice none 0 0, .slice a'' (j + 1) d'']) (by simp [results, Try.results64, go_sem, r0, r1, r2, r3, l1, l2]) rfl ⟨a, d, a'', d'', rfl, by rw [← HA.out]; exact i1, by rw [← HA.out]; exact i3, j1.mono (by omega), j3.mono (by omega), by rw [← HA.out]; exact BH.out.turns T4 (by omega), ?_⟩
   exact (TH.out.trans (T4.mono fun k hk => .inr (by omega))).mono' fun k hk hh => by rcases hh with h | h <;> omega
end Go.Proofs.Ytpepgpjiddophaa
namespace Go.Proofs.Ytpepgpjiddophaa
open Go.RowKit Plain
set_option linter.unusedVariables false
theorem stands_few {l : Bool} {ks vs : List ByteArray} {cs : List Int} (h : ¬ ks.length ≤ 9) : standsN l ks vs cs = false := by
 rw [Bool.eq_false_iff]; exact fun hh => h (standsN_iff.1 hh).1
theorem stands_key {l : Bool} {ks vs : List ByteArray} {cs : List Int} {j : Nat} {x : ByteArray} (hj : ks[j]? = some x) (h : ¬ (1 ≤ x.size ∧ x.size ≤ 32)) : standsN l ks vs cs = false := by
 rw [Bool.eq_false_iff]; exact fun hh => h ((standsN_iff.1 hh).2.1 x (List.mem_of_getElem? hj))
theorem stands_fall {l : Bool} {ks vs : List ByteArray} {cs : List Int} {j : Nat} {x y : ByteArray} (hj : ks[j]? = some x) (hj' : ks[j + 1]? = some y) (h : ltB x y = false) : standsN l ks vs cs = false := by
 rw [Bool.eq_false_iff]
 intro hh
 have := rising_next.1 (standsN_iff.1 hh).2.2.1 j x y hj hj'
 rw [h] at this; cases this
theorem stands_val {l : Bool} {ks vs : List ByteArray} {cs : List Int} {j : Nat} {x : ByteArray} (hj : vs[j]? = some x) (h : ¬ x.size ≤ 200) : standsN l ks vs cs = false := by
 rw [Bool.eq_false_iff]; exact fun hh => h ((standsN_iff.1 hh).2.2.2.1 x (List.mem_of_getElem? hj))
theorem stands_kid {l : Bool} {ks vs : List ByteArray} {cs : List Int} {j : Nat} {x : Int} (hj : cs[j]? = some x) (h : ¬ (10 ≤ x ∧ x ≤ 2047)) : standsN l ks vs cs = false := by
 rw [Bool.eq_false_iff]; exact fun hh => h ((standsN_iff.1 hh).2.2.2.2.1 x (List.mem_of_getElem? hj))
def keysTo (ks : List ByteArray) (j : Nat) : Prop :=
 (∀ i x, i < j → ks[i]? = some x → 1 ≤ x.size ∧ x.size ≤ 32) ∧ ∀ i x y, i + 1 < j → ks[i]? = some x → ks[i + 1]? = some y → ltB x y = true
theorem keysTo_zero (ks : List ByteArray) : keysTo ks 0 := ⟨fun i x h => by omega, fun i x y h => by omega⟩
theorem keysTo_first {ks : List ByteArray} {x : ByteArray} (hx : ks[0]? = some x) (h1 : 1 ≤ x.size) (h2 : x.size ≤ 32) : keysTo ks 1 := by
 refine ⟨fun i y hi hy => ?_, fun i y z h => by omega⟩
 obtain rfl : i = 0 := by omega
 rw [hx] at hy; cases hy; exact ⟨h1, h2⟩
theorem keysTo_next {ks : List ByteArray} {j : Nat} {p x : ByteArray} (h : keysTo ks (j + 1)) (hp : ks[j]? = some p) (hx : ks[j + 1]? = some x) (h1 : 1 ≤ x.size) (h2 : x.size ≤ 32) (h3 : ltB p x = true) : keysTo ks (j + 2) := by
 refine ⟨fun i y hi hy => ?_, fun i y z hi hy hz => ?_⟩
 ·
  by_cases e : i = j + 1
  ·
   subst e; rw [hx] at hy; cases hy; exact ⟨h1, h2⟩
  ·
   exact h.1 i y (by omega) hy
 ·
  by_cases e : i = j
  ·
   subst e; rw [hp] at hy; rw [hx] at hz; cases hy; cases hz; exact h3
  ·
   exact h.2 i y z (by omega) hy hz
def allTo {α : Type} (f : α → Prop) (vs : List α) (j : Nat) : Prop := ∀ i x, i < j → vs[i]? = some x → f x
theorem allTo_next {α : Type} {f : α → Prop} {vs : List α} {j : Nat} {x : α} (h : allTo f vs j) (hx : vs[j]? = some x) (hf : f x) : allTo f vs (j + 1) := by
 intro i y hi hy
 by_cases e : i = j
 ·
  subst e; rw [hx] at hy; cases hy; exact hf
 ·
  exact h i y (by omega) hy
theorem stands_all {l : Bool} {ks vs : List ByteArray} {cs : List Int} (h9 : ks.length ≤ 9) (hk : keysTo ks ks.length) (hv : allTo (fun v => v.size ≤ 200) vs vs.length) (hc : allTo (fun c => 10 ≤ c ∧ c ≤ 2047) cs cs.length) :
  standsN l ks vs cs = shapeN l ks.length vs.length cs.length := by
 have idx {α : Type} {xs : List α} {x : α} (h : x ∈ xs) : ∃ i, i < xs.length ∧ xs[i]? = some x := by
  obtain ⟨i, hi, e⟩ := List.getElem_of_mem h
  exact ⟨i, hi, by rw [List.getElem?_eq_getElem hi, e]⟩
 have key : (∀ k ∈ ks, 1 ≤ k.size ∧ k.size ≤ 32) := fun k hm => by obtain ⟨i, hi, e⟩ := idx hm; exact hk.1 i k hi e
 have ris : risingK ks = true := rising_next.2 fun i x y hx hy => hk.2 i x y (List.getElem?_eq_some_iff.1 hy).1 hx hy
 have val : (∀ v ∈ vs, v.size ≤ 200) := fun k hm => by obtain ⟨i, hi, e⟩ := idx hm; exact hv i k hi e
 have kid : (∀ c ∈ cs, 10 ≤ c ∧ c ≤ 2047) := fun k hm => by obtain ⟨i, hi, e⟩ := idx hm; exact hc i k hi e
 rw [Bool.eq_iff_iff, standsN_iff]
 exact ⟨fun h => h.2.2.2.2.2, fun h => ⟨h9, key, ris, val, kid, h⟩⟩
theorem le_text (k p : ByteArray) : (Op.bytesLess k.toList p.toList || k.toList == p.toList) = !ltB p k := by
 cases h : ltB p k with
 | true =>
  have h1 : Op.bytesLess k.toList p.toList = false := ltB_asymm h
  have h2 : ¬ k = p := by rintro rfl; rw [ltB_irrefl] at h; cases h
  rw [h1, str_eq_false h2]; rfl
 | false =>
  cases h1 : ltB k p with
  | true =>
   have : Op.bytesLess k.toList p.toList = true := h1
   rw [this]; rfl
  | false =>
   have := str_eq_true (ltB_total h1 h)
   rw [this]; simp
set_option maxRecDepth 20000 in
set_option maxHeartbeats 2000000 in
theorem refStands_any (l : Bool) (a a' a'' : Option Addr) (c c' c'' : Nat) (ks vs : List ByteArray) (cs : List Int) (w : World) (hK : IsS w a c ks) (hV : IsS w a' c' vs) (hC : IsI w a'' c'' cs) :
  Calls Try.prog 48 #[.agg #[.bool l, .slice a ks.length c, .slice a' vs.length c', .slice a'' cs.length c'']] w fun e w' => e = .returned (.bool (standsN l ks vs cs)) ∧ Below w.heap.size w w' := by
 obtain ⟨n, hn⟩ : ∃ n, n = ks.length := ⟨_, rfl⟩
 obtain ⟨n', hn'⟩ : ∃ n, n = vs.length := ⟨_, rfl⟩
 obtain ⟨n'', hn''⟩ : ∃ n, n = cs.length := ⟨_, rfl⟩
 have hB0 : Below w.heap.size w (w.alloc (.cells #[.bool l, .slice a n c, .slice a' n' c', .slice a'' n'' c''] 62)) := (Below.refl _ _).alloc (Nat.le_refl _) _
 have HK : Hid (IsS _ a c ks) := hK.below hB0
 have HV : Hid (IsS _ a' c' vs) := hV.below hB0
 have HC : Hid (IsI _ a'' c'' cs) := hC.below hB0
 have hm : n ≤ 9223372036854775807 := by rw [hn]; exact hK.size
 have hm' : n' ≤ 9223372036854775807 := by rw [hn']; exact hV.size
 have hm'' : n'' ≤ 9223372036854775807 := by rw [hn'']; exact hC.size
 have EK : Hid (n = ks.length) := hn
 have EV : Hid (n' = vs.length) := hn'
 have EC : Hid (n'' = cs.length) := hn''
 rw [← hn, ← hn', ← hn'']
 clear hK hV hC hn hn' hn''
 by_cases h9 : (n : Int) ≤ 9
 ·
  go_enter Try.func48, Try.ntmps48
  go_wp2
  go_loop [16] (fun v => ∃ j : Nat, j ≤ n ∧ v = .int .i64 j ∧ keysTo ks j) (fun v => n - (intOf v).toNat)
  case atStart => exact ⟨0, by omega, rfl, keysTo_zero ks⟩
  case round =>
   obtain ⟨j, hj, rfl, hA⟩ := hrel
   have HA : Hid (keysTo ks j) := hA
   clear hA
   by_cases hlt : j < n
   ·
    have hlt' : (j : Int) < n := by omega
    obtain ⟨x, hx⟩ : ∃ x, Hid (ks[j]? = some x) := ⟨_, List.getElem?_eq_getElem (by rw [← EK.out]; exact hlt)⟩
    obtain ⟨b, o, rfl, hlb, hc, hxs⟩ := HK.out.2.2 j x hx.out
    unfold maxLen at hxs
    by_cases h1 : 1 ≤ (x.size : Int)
    ·
     by_cases h2 : (x.size : Int) ≤ 32
     ·
      by_cases h0 : (0 : Int) < j
      ·
       obtain ⟨i, rfl⟩ : ∃ i, j = i + 1 := ⟨j - 1, by omega⟩
       obtain ⟨p, hp⟩ : ∃ x, Hid (ks[i]? = some x) := ⟨_, List.getElem?_eq_getElem (by rw [← EK.out]; omega)⟩
       obtain ⟨b2, o2, hbo, hlb2, hc2, hps⟩ := HK.out.2.2 i p hp.out
       obtain ⟨rfl, rfl⟩ : b2 = b ∧ o2 = o := by cases hbo; exact ⟨rfl, rfl⟩
       clear hbo hlb hlb2 hps
       have hle := le_text x p
       have hi0 : ((i + 1 : Nat) : Int) - 1 = i := by omega
       have hin : i < n := by omega
       cases hlt2 : ltB p x with
       | true =>
        rw [hlt2] at hle
        simp only [Bool.not_true] at hle
        have hN : Hid (keysTo ks (i + 1 + 1)) := keysTo_next HA.out hp.out hx.out (by omega) (by omega) hlt2
        clear hlt2
        go_wp2
        go_round
        case rel => exact ⟨i + 1 + 1, by omega, by go_num, hN.out⟩
        case measure => simp [intOf]; omega
       | false =>
        rw [hlt2] at hle
        simp only [Bool.not_false] at hle
        have hF : Hid (standsN l ks vs cs = false) := stands_fall hp.out hx.out hlt2
        clear hlt2
        go_wp2
        go_ret
        exact ⟨ret_bool hF.out.symm, hB0⟩
      ·
       obtain rfl : j = 0 := by omega
       rw [Nat.add_zero] at hc
       go_wp2
       go_round
       case rel => exact ⟨1, by omega, by go_num, keysTo_first hx.out (by omega) (by omega)⟩
       case measure => simp [intOf]; omega
     ·
      have hF : Hid (standsN l ks vs cs = false) := stands_key hx.out (by omega)
      go_wp2
      go_ret
      exact ⟨ret_bool hF.out.symm, hB0⟩
    ·
     have hF : Hid (standsN l ks vs cs = false) := stands_key hx.out (by omega)
     go_wp2
     go_ret
     exact ⟨ret_bool hF.out.symm, hB0⟩
   ·
    obtain rfl : j = n := by omega
    clear hlt
    go_wp2
    go_loop [47] (fun v => ∃ i : Nat, i ≤ n' ∧ v = .int .i64 i ∧ allTo (fun v => v.size ≤ 200) vs i) (fun v => n' - (intOf v).toNat)
    case atStart => exact ⟨0, by omega, rfl, fun i x hi => by omega⟩
    case round =>
     obtain ⟨i, hi, rfl, hA⟩ := hrel
     have HA' : Hid (allTo (fun v => v.size ≤ 200) vs i) := hA
     clear hA
     by_cases hlt : i < n'
     ·
      have hlt' : (i : Int) < n' := by omega
      obtain ⟨x, hx⟩ : ∃ x, Hid (vs[i]? = some x) := ⟨_, List.getElem?_eq_getElem (by rw [← EV.out]; exact hlt)⟩
      obtain ⟨b, o, rfl, hlb, hc, hxs⟩ := HV.out.2.2 i x hx.out
      unfold maxLen at hxs
      by_cases h2 : (x.size : Int) ≤ 200
      ·
       have hN : Hid (allTo (fun v => v.size ≤ 200) vs (i + 1)) := allTo_next HA'.out hx.out (by omega)
       go_wp2
       go_round
       case rel => exact ⟨i + 1, by omega, by go_num, hN.out⟩
       case measure => simp [intOf]; omega
      ·
       have hF : Hid (standsN l ks vs cs = false) := stands_val hx.out (by omega)
       go_wp2
       go_ret
       exact ⟨ret_bool hF.out.symm, hB0⟩
     ·
      obtain rfl : i = n' := by omega
      clear hlt
      go_wp2
      go_loop [58] (fun v => ∃ k : Nat, k ≤ n'' ∧ v = .int .i64 k ∧ allTo (fun c => 10 ≤ c ∧ c ≤ 2047) cs k) (fun v => n'' - (intOf v).toNat)
      case atStart => exact ⟨0, by omega, rfl, fun i x hi => by omega⟩
      case round =>
       obtain ⟨k, hk, rfl, hA⟩ := hrel
       have HA'' : Hid (allTo (fun c => 10 ≤ c ∧ c ≤ 2047) cs k) := hA
       clear hA
       by_cases hlt : k < n''
       ·
        have hlt' : (k : Int) < n'' := by omega
        obtain ⟨x, hx⟩ : ∃ x, Hid (cs[k]? = some x) := ⟨_, List.getElem?_eq_getElem (by rw [← EC.out]; exact hlt)⟩
        obtain ⟨b, o, rfl, hlb, hc⟩ := HC.out.2.2 k x hx.out
        by_cases h1 : 10 ≤ x
        ·
         by_cases h2 : x ≤ 2047
         ·
          have hN : Hid (allTo (fun c => 10 ≤ c ∧ c ≤ 2047) cs (k + 1)) := allTo_next HA''.out hx.out ⟨h1, h2⟩
          go_wp2
          go_round
          case rel => exact ⟨k + 1, by omega, by go_num, hN.out⟩
          case measure => simp [intOf]; omega
         ·
          have hF : Hid (standsN l ks vs cs = false) := stands_kid hx.out (by omega)
          go_wp2
          go_ret
          exact ⟨ret_bool hF.out.symm, hB0⟩
        ·
         have hF : Hid (standsN l ks vs cs = false) := stands_kid hx.out (by omega)
         go_wp2
         go_ret
         exact ⟨ret_bool hF.out.symm, hB0⟩
       ·
        obtain rfl : k = n'' := by omega
        clear hlt
        have hE : Hid (standsN l ks vs cs = shapeN l j i k) := by
         show _ = _
         rw [EK.out, EV.out, EC.out]
         exact stands_all (by rw [← EK.out]; omega) (by rw [← EK.out]; exact HA.out) (by rw [← EV.out]; exact HA'.out) (by rw [← EC.out]; exact HA''.out)
        cases l with
        | true =>
         by_cases h1 : (i : Int) = j
         ·
          go_wp2
          go_ret
          exact ⟨ret_bool (by rw [hE.out, Bool.eq_iff_iff, shape_leaf, beq_iff_eq]; omega), hB0⟩
         ·
          go_wp2
          go_ret
          exact ⟨ret_bool (by rw [hE.out]; exact (Bool.eq_false_iff.2 fun h => by have := shape_leaf.1 h; omega).symm), hB0⟩
        | false =>
         by_cases h1 : (i : Int) = 0
         ·
          by_cases h2 : 1 ≤ (j : Int)
          ·
           go_wp2
           go_ret
           exact ⟨ret_bool (by rw [hE.out, Bool.eq_iff_iff, shape_inner, beq_iff_eq]; omega), hB0⟩
          ·
           go_wp2
           go_ret
           exact ⟨ret_bool (by rw [hE.out]; exact (Bool.eq_false_iff.2 fun h => by have := shape_inner.1 h; omega).symm), hB0⟩
         ·
          go_wp2
          go_ret
          exact ⟨ret_bool (by rw [hE.out]; exact (Bool.eq_false_iff.2 fun h => by have := shape_inner.1 h; omega).symm), hB0⟩
 ·
  have hF : Hid (standsN l ks vs cs = false) := stands_few (by rw [← EK.out]; omega)
  go_enter Try.func48, Try.ntmps48
  go_wp2
  go_ret
  exact ⟨ret_bool hF.out.symm, hB0⟩
def keysN (ks : List ByteArray) : Bool := ks.all keyOk && risingK ks
def valsN (vs : List ByteArray) : Bool := vs.all valOk
def kidsN (cs : List Int) : Bool := cs.all kidOk
theorem standsN_parts (l : Bool) (ks vs : List ByteArray) (cs : List Int) : standsN l ks vs cs = (decide (ks.length ≤ 9) && keysN ks && valsN vs && kidsN cs && shapeN l ks.length vs.length cs.length) := by
 unfold standsN keysN valsN kidsN
 simp only [Bool.and_assoc]
theorem idx_of {α : Type} {xs : List α} {x : α} (h : x ∈ xs) : ∃ i, i < xs.length ∧ xs[i]? = some x := by
 obtain ⟨i, hi, e⟩ := List.getElem_of_mem h
 exact ⟨i, hi, by rw [List.getElem?_eq_getElem hi, e]⟩
theorem keysN_iff {ks : List ByteArray} : keysN ks = true ↔ (∀ k ∈ ks, 1 ≤ k.size ∧ k.size ≤ 32) ∧ risingK ks = true := by
 unfold keysN keyOk
 simp only [Bool.and_eq_true, List.all_eq_true, decide_eq_true_eq]
theorem keysN_all {ks : List ByteArray} (hk : keysTo ks ks.length) : keysN ks = true :=
 keysN_iff.2 ⟨fun k hm => by obtain ⟨i, hi, e⟩ := idx_of hm; exact hk.1 i k hi e, rising_next.2 fun i x y hx hy => hk.2 i x y (List.getElem?_eq_some_iff.1 hy).1 hx hy⟩
theorem keysN_key {ks : List ByteArray} {j : Nat} {x : ByteArray} (hj : ks[j]? = some x) (h : ¬ (1 ≤ x.size ∧ x.size ≤ 32)) : keysN ks = false := by
 rw [Bool.eq_false_iff]; exact fun hh => h ((keysN_iff.1 hh).1 x (List.mem_of_getElem? hj))
theorem keysN_fall {ks : List ByteArray} {j : Nat} {x y : ByteArray} (hj : ks[j]? = some x) (hj' : ks[j + 1]? = some y) (h : ltB x y = false) : keysN ks = false := by
 rw [Bool.eq_false_iff]
 intro hh
 have := rising_next.1 (keysN_iff.1 hh).2 j x y hj hj'
 rw [h] at this; cases this
theorem valsN_iff {vs : List ByteArray} : valsN vs = true ↔ ∀ v ∈ vs, v.size ≤ 200 := by
 unfold valsN valOk
 simp only [List.all_eq_true, decide_eq_true_eq]
theorem kidsN_iff {cs : List Int} : kidsN cs = true ↔ ∀ c ∈ cs, 10 ≤ c ∧ c ≤ 2047 := by
 unfold kidsN kidOk
 simp only [Bool.and_eq_true, List.all_eq_true, decide_eq_true_eq]
theorem nil_list : (⟨#[]⟩ : ByteArray).toList = [] := by rw [ByteArray.toList_eq]
theorem empty_size {x : ByteArray} (h : ¬ x = ⟨#[]⟩) : 1 ≤ x.size := by
 rcases Nat.eq_zero_or_pos x.size with h0 | h0
 ·
  exfalso
  apply h
  apply bytes_ext
  have : x.data.toList.length = 0 := h0
  rw [List.length_eq_zero_iff.1 this]
 ·
  exact h0
set_option maxHeartbeats 1000000 in
theorem areKeys_any (a : Option Addr) (c n : Nat) (ks : List ByteArray) (w : World) (hn : n = ks.length) (hK : IsS w a c ks) :
  Calls Try.prog 65 #[.slice a n c] w fun e w' => e = .returned (.bool (keysN ks)) ∧ Below w.heap.size w w' := by
 have HK : Hid (IsS w a c ks) := hK
 have hm : n ≤ 9223372036854775807 := by rw [hn]; exact hK.size
 have EK : Hid (n = ks.length) := hn
 have hB0 : Below w.heap.size w w := Below.refl _ _
 clear hK hn
 obtain ⟨r, hr⟩ : ∃ r, r = keysN ks := ⟨_, rfl⟩
 have HR : Hid (r = keysN ks) := hr
 rw [← hr]
 clear hr
 go_enter Try.func65, Try.ntmps65
 go_wp2
 go_loop [7] (fun v => ∃ j : Nat, j ≤ n ∧ v = .int .i64 j ∧ keysTo ks j) (fun v => n - (intOf v).toNat)
 case atStart => exact ⟨0, by omega, rfl, keysTo_zero ks⟩
 case round =>
  obtain ⟨j, hj, rfl, hA⟩ := hrel
  have HA : Hid (keysTo ks j) := hA
  clear hA
  by_cases hlt : j < n
  ·
   have hlt' : (j : Int) < n := by omega
   obtain ⟨x, hx⟩ : ∃ x, Hid (ks[j]? = some x) := ⟨_, List.getElem?_eq_getElem (by rw [← EK.out]; exact hlt)⟩
   obtain ⟨b, o, rfl, hlb, hc, hxs⟩ := HK.out.2.2 j x hx.out
   unfold maxLen at hxs
   by_cases h1 : x = ⟨#[]⟩
   ·
    have h1' : x.toList = [] := by rw [h1]; exact nil_list
    have hF : Hid (r = false) := by show _ = _; rw [HR.out]; exact keysN_key hx.out (by rw [h1]; simp [ByteArray.size])
    clear h1
    go_wp2
    go_ret
    exact ⟨ret_bool hF.out.symm, hB0⟩
   ·
    have h1' : ¬ x.toList = [] := fun h => h1 (toList_inj (h.trans nil_list.symm))
    have h1'' : x.toList.isEmpty = false := by rw [List.isEmpty_eq_false_iff]; exact h1'
    have h1s : Hid (1 ≤ x.size) := empty_size h1
    clear h1
    by_cases h2 : (x.size : Int) ≤ 32
    ·
     by_cases h0 : (0 : Int) < j
     ·
      obtain ⟨i, rfl⟩ : ∃ i, j = i + 1 := ⟨j - 1, by omega⟩
      obtain ⟨p, hp⟩ : ∃ x, Hid (ks[i]? = some x) := ⟨_, List.getElem?_eq_getElem (by rw [← EK.out]; omega)⟩
      obtain ⟨b2, o2, hbo, hlb2, hc2, hps⟩ := HK.out.2.2 i p hp.out
      obtain ⟨rfl, rfl⟩ : b2 = b ∧ o2 = o := by cases hbo; exact ⟨rfl, rfl⟩
      clear hbo hlb hlb2 hps
      have hi0 : ((i + 1 : Nat) : Int) - 1 = i := by omega
      have hin : i < n := by omega
      cases hlt2 : ltB p x with
      | true =>
       have hle : Op.bytesLess p.toList x.toList = true := hlt2
       have hN : Hid (keysTo ks (i + 1 + 1)) := keysTo_next HA.out hp.out hx.out h1s.out (by omega) hlt2
       clear hlt2
       go_wp2
       go_round
       case rel => exact ⟨i + 1 + 1, by omega, by go_num, hN.out⟩
       case measure => simp [intOf]; omega
      | false =>
       have hle : Op.bytesLess p.toList x.toList = false := hlt2
       have hF : Hid (r = false) := by show _ = _; rw [HR.out]; exact keysN_fall hp.out hx.out hlt2
       clear hlt2
       go_wp2
       go_ret
       exact ⟨ret_bool hF.out.symm, hB0⟩
     ·
      obtain rfl : j = 0 := by omega
      rw [Nat.add_zero] at hc
      have hN : Hid (keysTo ks 1) := keysTo_first hx.out h1s.out (by omega)
      go_wp2
      go_round
      case rel => exact ⟨1, by omega, by go_num, hN.out⟩
      case measure => simp [intOf]; omega
    ·
     have hF : Hid (r = false) := by show _ = _; rw [HR.out]; exact keysN_key hx.out (by omega)
     go_wp2
     go_ret
     exact ⟨ret_bool hF.out.symm, hB0⟩
  ·
   obtain rfl : j = n := by omega
   have hT : Hid (r = true) := by show _ = _; rw [HR.out]; exact keysN_all (by rw [← EK.out]; exact HA.out)
   go_wp2
   go_ret
   exact ⟨ret_bool hT.out.symm, hB0⟩
set_option maxHeartbeats 1000000 in
theorem areValues_any (a : Option Addr) (c n : Nat) (vs : List ByteArray) (w : World) (hn : n = vs.length) (hV : IsS w a c vs) :
  Calls Try.prog 66 #[.slice a n c] w fun e w' => e = .returned (.bool (valsN vs)) ∧ Below w.heap.size w w' := by
 have HK : Hid (IsS w a c vs) := hV
 have hm : n ≤ 9223372036854775807 := by rw [hn]; exact hV.size
 have EK : Hid (n = vs.length) := hn
 have hB0 : Below w.heap.size w w := Below.refl _ _
 clear hV hn
 obtain ⟨r, hr⟩ : ∃ r, r = valsN vs := ⟨_, rfl⟩
 have HR : Hid (r = valsN vs) := hr
 rw [← hr]
 clear hr
 go_enter Try.func66, Try.ntmps66
 go_wp2
 go_loop [7] (fun v => ∃ i : Nat, i ≤ n ∧ v = .int .i64 i ∧ allTo (fun v => v.size ≤ 200) vs i) (fun v => n - (intOf v).toNat)
 case atStart => exact ⟨0, by omega, rfl, fun i x hi => by omega⟩
 case round =>
  obtain ⟨i, hi, rfl, hA⟩ := hrel
  have HA : Hid (allTo (fun v => v.size ≤ 200) vs i) := hA
  clear hA
  by_cases hlt : i < n
  ·
   have hlt' : (i : Int) < n := by omega
   obtain ⟨x, hx⟩ : ∃ x, Hid (vs[i]? = some x) := ⟨_, List.getElem?_eq_getElem (by rw [← EK.out]; exact hlt)⟩
   obtain ⟨b, o, rfl, hlb, hc, hxs⟩ := HK.out.2.2 i x hx.out
   unfold maxLen at hxs
   by_cases h2 : (x.size : Int) ≤ 200
   ·
    have hN : Hid (allTo (fun v => v.size ≤ 200) vs (i + 1)) := allTo_next HA.out hx.out (by omega)
    go_wp2
    go_round
    case rel => exact ⟨i + 1, by omega, by go_num, hN.out⟩
    case measure => simp [intOf]; omega
   ·
    have hF : Hid (r = false) := by
     show _ = _
     rw [HR.out, Bool.eq_false_iff]
     exact fun hh => h2 (by have := valsN_iff.1 hh x (List.mem_of_getElem? hx.out); omega)
    go_wp2
    go_ret
    exact ⟨ret_bool hF.out.symm, hB0⟩
  ·
   obtain rfl : i = n := by omega
   have hT : Hid (r = true) := by
    show _ = _
    rw [HR.out]
    exact valsN_iff.2 fun v hm => by obtain ⟨j, hj, e⟩ := idx_of hm; exact HA.out j v (by rw [EK.out]; exact hj) e
   go_wp2
   go_ret
   exact ⟨ret_bool hT.out.symm, hB0⟩
set_option maxHeartbeats 1000000 in
theorem areBlocks_any (a : Option Addr) (c n : Nat) (cs : List Int) (w : World) (hn : n = cs.length) (hC : IsI w a c cs) :
  Calls Try.prog 67 #[.slice a n c] w fun e w' => e = .returned (.bool (kidsN cs)) ∧ Below w.heap.size w w' := by
 have HK : Hid (IsI w a c cs) := hC
 have hm : n ≤ 9223372036854775807 := by rw [hn]; exact hC.size
 have EK : Hid (n = cs.length) := hn
 have hB0 : Below w.heap.size w w := Below.refl _ _
 clear hC hn
 obtain ⟨r, hr⟩ : ∃ r, r = kidsN cs := ⟨_, rfl⟩
 have HR : Hid (r = kidsN cs) := hr
 rw [← hr]
 clear hr
 go_enter Try.func67, Try.ntmps67
 go_wp2
 go_loop [7] (fun v => ∃ i : Nat, i ≤ n ∧ v = .int .i64 i ∧ allTo (fun c => 10 ≤ c ∧ c ≤ 2047) cs i) (fun v => n - (intOf v).toNat)
 case atStart => exact ⟨0, by omega, rfl, fun i x hi => by omega⟩
 case round =>
  obtain ⟨i, hi, rfl, hA⟩ := hrel
  have HA : Hid (allTo (fun c => 10 ≤ c ∧ c ≤ 2047) cs i) := hA
  clear hA
  by_cases hlt : i < n
  ·
   have hlt' : (i : Int) < n := by omega
   obtain ⟨x, hx⟩ : ∃ x, Hid (cs[i]? = some x) := ⟨_, List.getElem?_eq_getElem (by rw [← EK.out]; exact hlt)⟩
   obtain ⟨b, o, rfl, hlb, hc⟩ := HK.out.2.2 i x hx.out
   have hF' : Hid (¬ (10 ≤ x ∧ x ≤ 2047) → r = false) := fun h => by
    rw [HR.out, Bool.eq_false_iff]
    exact fun hh => h (kidsN_iff.1 hh x (List.mem_of_getElem? hx.out))
   by_cases h1 : 10 ≤ x
   ·
    by_cases h2 : x < 2048
    ·
     have hN : Hid (allTo (fun c => 10 ≤ c ∧ c ≤ 2047) cs (i + 1)) := allTo_next HA.out hx.out ⟨h1, by omega⟩
     go_wp2
     go_round
     case rel => exact ⟨i + 1, by omega, by go_num, hN.out⟩
     case measure => simp [intOf]; omega
    ·
     have hF : Hid (r = false) := hF'.out (by omega)
     go_wp2
     go_ret
     exact ⟨ret_bool hF.out.symm, hB0⟩
   ·
    have hF : Hid (r = false) := hF'.out (by omega)
    go_wp2
    go_ret
    exact ⟨ret_bool hF.out.symm, hB0⟩
  ·
   obtain rfl : i = n := by omega
   have hT : Hid (r = true) := by
    show _ = _
    rw [HR.out]
    exact kidsN_iff.2 fun v hm => by obtain ⟨j, hj, e⟩ := idx_of hm; exact HA.out j v (by rw [EK.out]; exact hj) e
   go_wp2
   go_ret
   exact ⟨ret_bool hT.out.symm, hB0⟩
set_option maxHeartbeats 2000000 in
theorem mayStand_any (l : Bool) (a a' a'' : Option Addr) (c c' c'' n n' n'' : Nat) (ks vs : List ByteArray) (cs : List Int) (w : World) (hn : n = ks.length) (hn' : n' = vs.length) (hn'' : n'' = cs.length) (hK : IsS w a c ks) (hV : IsS w a' c' vs) (hC : IsI w a'' c'' cs) :
  Calls Try.prog 52 #[.agg #[.bool l, .slice a n c, .slice a' n' c', .slice a'' n'' c'']] w fun e w' => e = .returned (.bool (standsN l ks vs cs)) ∧ Below w.heap.size w w' := by
 have hB0 : Below w.heap.size w (w.alloc (.cells #[.bool l, .slice a n c, .slice a' n' c', .slice a'' n'' c''] 62)) := (Below.refl _ _).alloc (Nat.le_refl _) _
 have hX := box4_new w (.bool l) (.slice a n c) (.slice a' n' c') (.slice a'' n'' c'') 62 rfl
 have cK : ∀ W', Below w.heap.size w W' → Calls Try.prog 65 #[.slice a n c] W' fun e w' => e = .returned (.bool (keysN ks)) ∧ Below W'.heap.size W' w' := fun W' h => areKeys_any _ _ _ _ _ hn (hK.below h)
 have cV : ∀ W', Below w.heap.size w W' → Calls Try.prog 66 #[.slice a' n' c'] W' fun e w' => e = .returned (.bool (valsN vs)) ∧ Below W'.heap.size W' w' := fun W' h => areValues_any _ _ _ _ _ hn' (hV.below h)
 have cC : ∀ W', Below w.heap.size w W' → Calls Try.prog 67 #[.slice a'' n'' c''] W' fun e w' => e = .returned (.bool (kidsN cs)) ∧ Below W'.heap.size W' w' := fun W' h => areBlocks_any _ _ _ _ _ hn'' (hC.below h)
 have hm : n ≤ 9223372036854775807 := by rw [hn]; exact hK.size
 have hm' : n' ≤ 9223372036854775807 := by rw [hn']; exact hV.size
 have hm'' : n'' ≤ 9223372036854775807 := by rw [hn'']; exact hC.size
 obtain ⟨r, hr⟩ : ∃ r, r = standsN l ks vs cs := ⟨_, rfl⟩
 have HR : Hid (r = (decide (n ≤ 9) && keysN ks && valsN vs && kidsN cs && shapeN l n n' n'')) := by show _ = _; rw [hr, hn, hn', hn'']; exact standsN_parts l ks vs cs
 have HV0 : Hid (n' = 0 → valsN vs = true) := fun h => by rw [hn'] at h; rw [List.length_eq_zero_iff.1 h]; rfl
 have HC0 : Hid (n'' = 0 → kidsN cs = true) := fun h => by rw [hn''] at h; rw [List.length_eq_zero_iff.1 h]; rfl
 rw [← hr]
 clear hr hn hn' hn'' hK hV hC
 generalize keysN ks = kk at cK HR
 generalize valsN vs = vv at cV HR HV0
 generalize kidsN cs = cc at cC HR HC0
 by_cases h9 : (n : Int) ≤ 9
 ·
  cases kk with
  | true =>
   cases l with
   | true =>
    by_cases e1 : (n' : Int) = n
    ·
     cases vv with
     | true =>
      have hE : Hid (r = ((n'' : Int) == 0)) := by
       show _ = _
       rw [HR.out]
       by_cases h0 : n'' = 0
       ·
        rw [HC0.out h0, decide_eq_true (by omega), shape_leaf.2 ⟨by omega, h0⟩, h0]; rfl
       ·
        rw [Bool.eq_false_iff.2 (fun h => h0 (shape_leaf.1 h).2 : ¬ shapeN true n n' n'' = true), Bool.and_false, (beq_eq_false_iff_ne.2 (by omega) : ((n'' : Int) == 0) = false)]
      clear HR HV0 HC0
      go_enter Try.func52, Try.ntmps52
      go_wp2_with (first
       | (go_at_call 65; refine (cK _ hB0).mono ?_; rintro e w1 ⟨rfl, hb⟩; replace hX := hX.below hb; obtain ⟨⟨q0, q1, q2, q3⟩, -⟩ := id hX; replace hB0 := Below.tr hB0 hb; clear hb)
       | (go_at_call 66; refine (cV _ hB0).mono ?_; rintro e w1 ⟨rfl, hb⟩; replace hX := hX.below hb; clear q0 q1 q2 q3; obtain ⟨⟨q0, q1, q2, q3⟩, -⟩ := id hX; replace hB0 := Below.tr hB0 hb; clear hb))
      go_ret
      exact ⟨ret_bool hE.out.symm, hB0⟩
     | false =>
      have hE : Hid (r = false) := by show _ = _; rw [HR.out]; simp
      clear HR HV0 HC0
      go_enter Try.func52, Try.ntmps52
      go_wp2_with (first
       | (go_at_call 65; refine (cK _ hB0).mono ?_; rintro e w1 ⟨rfl, hb⟩; replace hX := hX.below hb; obtain ⟨⟨q0, q1, q2, q3⟩, -⟩ := id hX; replace hB0 := Below.tr hB0 hb; clear hb)
       | (go_at_call 66; refine (cV _ hB0).mono ?_; rintro e w1 ⟨rfl, hb⟩; replace hX := hX.below hb; clear q0 q1 q2 q3; obtain ⟨⟨q0, q1, q2, q3⟩, -⟩ := id hX; replace hB0 := Below.tr hB0 hb; clear hb))
      go_ret
      exact ⟨ret_bool hE.out.symm, hB0⟩
    ·
     have e1' : ((n' : Int) == n) = false := beq_eq_false_iff_ne.2 e1
     have hE : Hid (r = false) := by
      show _ = _
      rw [HR.out, Bool.eq_false_iff.2 (fun h => e1 (by have := (shape_leaf.1 h).1; omega) : ¬ shapeN true n n' n'' = true), Bool.and_false]
     clear HR HV0 HC0
     go_enter Try.func52, Try.ntmps52
     go_wp2_with (go_at_call 65; refine (cK _ hB0).mono ?_; rintro e w1 ⟨rfl, hb⟩; replace hX := hX.below hb; obtain ⟨⟨q0, q1, q2, q3⟩, -⟩ := id hX; replace hB0 := Below.tr hB0 hb; clear hb)
     go_ret
     exact ⟨ret_bool hE.out.symm, hB0⟩
   | false =>
    by_cases e1 : (n' : Int) = 0
    ·
     by_cases e2 : (0 : Int) < n
     ·
      by_cases e3 : (n'' : Int) = n + 1
      ·
       have hE : Hid (r = cc) := by
        show _ = _
        rw [HR.out, HV0.out (by omega), decide_eq_true (by omega), shape_inner.2 ⟨by omega, by omega, by omega⟩]; simp
       clear HR HV0 HC0
       go_enter Try.func52, Try.ntmps52
       go_wp2_with (first
        | (go_at_call 65; refine (cK _ hB0).mono ?_; rintro e w1 ⟨rfl, hb⟩; replace hX := hX.below hb; obtain ⟨⟨q0, q1, q2, q3⟩, -⟩ := id hX; replace hB0 := Below.tr hB0 hb; clear hb)
        | (go_at_call 67; refine (cC _ hB0).mono ?_; rintro e w1 ⟨rfl, hb⟩; replace hB0 := Below.tr hB0 hb; clear hb))
       go_ret
       exact ⟨ret_bool hE.out.symm, hB0⟩
      ·
       have e3' : ((n'' : Int) == n + 1) = false := beq_eq_false_iff_ne.2 e3
       have hE : Hid (r = false) := by
        show _ = _
        rw [HR.out, Bool.eq_false_iff.2 (fun h => e3 (by have := (shape_inner.1 h).2.2; omega) : ¬ shapeN false n n' n'' = true), Bool.and_false]
       clear HR HV0 HC0
       go_enter Try.func52, Try.ntmps52
       go_wp2_with (go_at_call 65; refine (cK _ hB0).mono ?_; rintro e w1 ⟨rfl, hb⟩; replace hX := hX.below hb; obtain ⟨⟨q0, q1, q2, q3⟩, -⟩ := id hX; replace hB0 := Below.tr hB0 hb; clear hb)
       go_ret
       exact ⟨ret_bool hE.out.symm, hB0⟩
     ·
      have hE : Hid (r = false) := by
       show _ = _
       rw [HR.out, Bool.eq_false_iff.2 (fun h => e2 (by have := (shape_inner.1 h).2.1; omega) : ¬ shapeN false n n' n'' = true), Bool.and_false]
      clear HR HV0 HC0
      go_enter Try.func52, Try.ntmps52
      go_wp2_with (go_at_call 65; refine (cK _ hB0).mono ?_; rintro e w1 ⟨rfl, hb⟩; replace hX := hX.below hb; obtain ⟨⟨q0, q1, q2, q3⟩, -⟩ := id hX; replace hB0 := Below.tr hB0 hb; clear hb)
      go_ret
      exact ⟨ret_bool hE.out.symm, hB0⟩
    ·
     have e1' : ((n' : Int) == 0) = false := beq_eq_false_iff_ne.2 e1
     have hE : Hid (r = false) := by
      show _ = _
      rw [HR.out, Bool.eq_false_iff.2 (fun h => e1 (by have := (shape_inner.1 h).1; omega) : ¬ shapeN false n n' n'' = true), Bool.and_false]
     clear HR HV0 HC0
     go_enter Try.func52, Try.ntmps52
     go_wp2_with (go_at_call 65; refine (cK _ hB0).mono ?_; rintro e w1 ⟨rfl, hb⟩; replace hX := hX.below hb; obtain ⟨⟨q0, q1, q2, q3⟩, -⟩ := id hX; replace hB0 := Below.tr hB0 hb; clear hb)
     go_ret
     exact ⟨ret_bool hE.out.symm, hB0⟩
  | false =>
   have hE : Hid (r = false) := by show _ = _; rw [HR.out]; simp
   clear HR HV0 HC0
   go_enter Try.func52, Try.ntmps52
   go_wp2_with (go_at_call 65; refine (cK _ hB0).mono ?_; rintro e w1 ⟨rfl, hb⟩; replace hX := hX.below hb; obtain ⟨⟨q0, q1, q2, q3⟩, -⟩ := id hX; replace hB0 := Below.tr hB0 hb; clear hb)
   go_ret
   exact ⟨ret_bool hE.out.symm, hB0⟩
 ·
  have hE : Hid (r = false) := by
   show _ = _
   rw [HR.out, decide_eq_false (p := n ≤ 9) (by omega)]; simp
  clear HR HV0 HC0
  go_enter Try.func52, Try.ntmps52
  go_wp2
  go_ret
  exact ⟨ret_bool hE.out.symm, hB0⟩
set_option maxHeartbeats 1000000 in
theorem nodeRight_any (l : Bool) (a a' a'' : Option Addr) (c c' c'' n n' n'' : Nat) (ks vs : List ByteArray) (cs : List Int) (root : Bool) (w : World) (hn : n = ks.length) (hn' : n' = vs.length) (hn'' : n'' = cs.length) (hK : IsS w a c ks) (hV : IsS w a' c' vs) (hC : IsI w a'' c'' cs) :
  Calls Try.prog 41 #[.agg #[.bool l, .slice a n c, .slice a' n' c', .slice a'' n'' c''], .bool root] w fun e w' => e = .returned (.bool (rightN l ks vs cs root)) ∧ Below w.heap.size w w' := by
 have hB0 : Below w.heap.size w (w.alloc (.cells #[.bool l, .slice a n c, .slice a' n' c', .slice a'' n'' c''] 62)) := (Below.refl _ _).alloc (Nat.le_refl _) _
 have hX := box4_new w (.bool l) (.slice a n c) (.slice a' n' c') (.slice a'' n'' c'') 62 rfl
 have cS := mayStand_any l a a' a'' c c' c'' n n' n'' ks vs cs _ hn hn' hn'' (hK.below hB0) (hV.below hB0) (hC.below hB0)
 have hm : n ≤ 9223372036854775807 := by rw [hn]; exact hK.size
 have HE : Hid (rightN l ks vs cs root = (standsN l ks vs cs && decide ((n : Int) ≤ 8) && (root || decide (4 ≤ (n : Int))))) := by
  show _ = _
  rw [hn]; unfold rightN
  congr 1
  ·
   congr 1
   rw [decide_eq_decide]; omega
  ·
   congr 1
   rw [decide_eq_decide]; omega
 clear hn hn' hn'' hK hV hC
 cases hs : standsN l ks vs cs with
 | true =>
  rw [hs] at cS HE
  by_cases h8 : (n : Int) ≤ 8
  ·
   cases root with
   | true =>
    go_enter Try.func41, Try.ntmps41
    go_wp2_with (go_at_call 52; refine cS.mono ?_; rintro e w1 ⟨rfl, hb⟩; obtain ⟨⟨q0, q1, q2, q3⟩, -⟩ := hX.below hb; have hB1 := Below.tr hB0 hb)
    go_ret
    exact ⟨ret_bool (by rw [HE.out]; simp [h8]), hB1⟩
   | false =>
    go_enter Try.func41, Try.ntmps41
    go_wp2_with (go_at_call 52; refine cS.mono ?_; rintro e w1 ⟨rfl, hb⟩; obtain ⟨⟨q0, q1, q2, q3⟩, -⟩ := hX.below hb; have hB1 := Below.tr hB0 hb)
    go_ret
    exact ⟨ret_bool (by rw [HE.out]; simp [h8]), hB1⟩
  ·
   go_enter Try.func41, Try.ntmps41
   go_wp2_with (go_at_call 52; refine cS.mono ?_; rintro e w1 ⟨rfl, hb⟩; obtain ⟨⟨q0, q1, q2, q3⟩, -⟩ := hX.below hb; have hB1 := Below.tr hB0 hb)
   go_ret
   exact ⟨ret_bool (by rw [HE.out, decide_eq_false (p := (n : Int) ≤ 8) (by omega)]; simp), hB1⟩
 | false =>
  rw [hs] at cS HE
  go_enter Try.func41, Try.ntmps41
  go_wp2_with (go_at_call 52; refine cS.mono ?_; rintro e w1 ⟨rfl, hb⟩; obtain ⟨⟨q0, q1, q2, q3⟩, -⟩ := hX.below hb; have hB1 := Below.tr hB0 hb)
  go_ret
  exact ⟨ret_bool (by rw [HE.out]; simp), hB1⟩
end Go.Proofs.Ytpepgpjiddophaa
namespace Go.Proofs.Ytpepgpjiddophaa.Plain
open Go.RowKit
set_option linter.unusedVariables false
def leafSt (s : ByteArray) : Nat → Int ⊕ (Int × List ByteArray × List ByteArray)
 | 0 => .inr (1, [], [])
 | j + 1 => match leafSt s j with
  | .inl e => .inl e
  | .inr (p, ks, vs) => if cutE s p = 0 then (if cutE s (cutT s p) = 0 then .inr (cutT s (cutT s p), ks ++ [cutS s p], vs ++ [cutS s (cutT s p)]) else .inl (cutE s (cutT s p))) else .inl (cutE s p)
def innSt (s : ByteArray) : Nat → Int ⊕ (Int × List ByteArray × List Int)
 | 0 => .inr (1, [], [])
 | j + 1 => match innSt s j with
  | .inl e => .inl e
  | .inr (p, ks, cs) => if getE s p 2 = 0 then (if cutE s (getT s p 2) = 0 then .inr (cutT s (getT s p 2), ks ++ [cutS s (getT s p 2)], cs ++ [getR s p 2]) else .inl (cutE s (getT s p 2))) else .inl (getE s p 2)
def leafR (s : ByteArray) : Int ⊕ (Bool × List ByteArray × List ByteArray × List Int) :=
 if getE s 0 1 = 0 then (match leafSt s (getR s 0 1).toNat with
  | .inl e => .inl e
  | .inr (p, ks, vs) => if p = s.size ∧ rightN true ks vs [] true = true then .inr (true, ks, vs, []) else .inl 4) else .inl (getE s 0 1)
def innR (s : ByteArray) : Int ⊕ (Bool × List ByteArray × List ByteArray × List Int) :=
 if getE s 0 1 = 0 then (match innSt s (getR s 0 1).toNat with
  | .inl e => .inl e
  | .inr (p, ks, cs) => if getE s p 2 = 0 then (if getT s p 2 = s.size ∧ rightN false ks [] (cs ++ [getR s p 2]) true = true then .inr (false, ks, [], cs ++ [getR s p 2]) else .inl 4) else .inl (getE s p 2)) else .inl (getE s 0 1)
def nodeR (kind : Int) (s : ByteArray) : Int ⊕ (Bool × List ByteArray × List ByteArray × List Int) := if kind = 1 then leafR s else if kind = 2 then innR s else .inl 81
theorem leafSt_stuck {s : ByteArray} {j : Nat} {e : Int} (h : leafSt s j = .inl e) (d : Nat) : leafSt s (j + d) = .inl e := by
 induction d with
 | zero => exact h
 | succ d ih => rw [← Nat.add_assoc, leafSt, ih]
theorem innSt_stuck {s : ByteArray} {j : Nat} {e : Int} (h : innSt s j = .inl e) (d : Nat) : innSt s (j + d) = .inl e := by
 induction d with
 | zero => exact h
 | succ d ih => rw [← Nat.add_assoc, innSt, ih]
theorem leafSt_length {s : ByteArray} {j : Nat} {p : Int} {ks vs : List ByteArray} (h : leafSt s j = .inr (p, ks, vs)) : ks.length = j ∧ vs.length = j := by
 induction j generalizing p ks vs with
 | zero => cases h; exact ⟨rfl, rfl⟩
 | succ j ih =>
  rw [leafSt] at h
  split at h
  ·
   cases h
  ·
   rename_i q xs ys hj
   split at h
   ·
    split at h
    ·
     cases h
     have := ih hj
     simp; omega
    ·
     cases h
   ·
    cases h
theorem innSt_length {s : ByteArray} {j : Nat} {p : Int} {ks : List ByteArray} {cs : List Int} (h : innSt s j = .inr (p, ks, cs)) : ks.length = j ∧ cs.length = j := by
 induction j generalizing p ks cs with
 | zero => cases h; exact ⟨rfl, rfl⟩
 | succ j ih =>
  rw [innSt] at h
  split at h
  ·
   cases h
  ·
   rename_i q xs ys hj
   split at h
   ·
    split at h
    ·
     cases h
     have := ih hj
     simp; omega
    ·
     cases h
   ·
    cases h
theorem get_num {s : ByteArray} {p k : Nat} (h : getE s p k = 0) : getR s p k = getV s p k ∧ getT s p k = ((p + k : Nat) : Int) ∧ p + k ≤ s.size ∧ 1 ≤ k ∧ k ≤ 6 := by
 obtain ⟨h1, h2, h3, h4⟩ := getE_ok h
 refine ⟨?_, ?_, by omega, by omega, by omega⟩
 ·
  unfold getR; rw [if_pos h]; simp
 ·
  unfold getT; rw [if_pos h]; omega
end Go.Proofs.Ytpepgpjiddophaa.Plain
namespace Go.Proofs.Ytpepgpjiddophaa
open Go.RowKit Plain Anylast
set_option linter.unusedVariables false
theorem rd_leafSt (s : ByteArray) (j : Nat) : match leafSt s j with
  | .inl e => (rdLeaf s 1 0 j).e = e ∧ e ≠ 0
  | .inr (p, ks, vs) => rdLeaf s 1 0 j = ⟨p, 0, ks, vs⟩ := by
 induction j with
 | zero => rfl
 | succ j ih =>
  rw [leafSt]
  cases h : leafSt s j with
  | inl e =>
   rw [h] at ih
   obtain ⟨h1, h2⟩ := ih
   simp only [rdLeaf, h1]
   refine ⟨?_, h2⟩
   unfold rdE
   rw [if_neg h2, if_neg h2]
  | inr x =>
   obtain ⟨p, ks, vs⟩ := x
   rw [h] at ih
   simp only at ih ⊢
   simp only [rdLeaf, ih]
   unfold rdE rdP rdS
   simp only [if_true]
   by_cases c1 : cutE s p = 0
   ·
    simp only [c1, if_true]
    by_cases c2 : cutE s (cutT s p) = 0
    ·
     simp only [c2, if_true]
    ·
     rw [if_neg c2]
     exact ⟨rfl, c2⟩
   ·
    rw [if_neg c1]
    simp only [if_neg c1]
    exact ⟨trivial, c1⟩
theorem rd_innSt (s : ByteArray) (j : Nat) : match innSt s j with
  | .inl e => (rdInn s 1 0 j).e = e ∧ e ≠ 0
  | .inr (p, ks, cs) => rdInn s 1 0 j = ⟨getT s p 2, getE s p 2, ks, cs ++ [getR s p 2]⟩ := by
 induction j with
 | zero => rfl
 | succ j ih =>
  rw [innSt]
  cases h : innSt s j with
  | inl e =>
   rw [h] at ih
   obtain ⟨h1, h2⟩ := ih
   simp only [rdInn, h1]
   refine ⟨?_, h2⟩
   unfold rnE rdE
   rw [if_neg h2, if_neg h2]
  | inr x =>
   obtain ⟨p, ks, cs⟩ := x
   rw [h] at ih
   simp only at ih ⊢
   simp only [rdInn, ih]
   by_cases c1 : getE s p 2 = 0
   ·
    rw [if_pos c1]
    by_cases c2 : cutE s (getT s p 2) = 0
    ·
     rw [if_pos c2]
     simp only [rdE, rdP, rdS, rnE, rnP, rnR, c1, c2, if_true]
    ·
     rw [if_neg c2]
     simp only [rdE, rdP, rnE, c1, if_true, if_neg c2]
     exact ⟨trivial, c2⟩
   ·
    rw [if_neg c1]
    simp only [rdE, rdP, rnE, if_neg c1]
    exact ⟨trivial, c1⟩
theorem rn_one {s : ByteArray} (h : getE s 0 1 = 0) : rnP s 0 0 1 = 1 ∧ rnE s 0 0 1 = 0 ∧ rnR s 0 0 1 = getR s 0 1 := by
 unfold rnP rnE rnR
 rw [if_pos rfl, if_pos rfl, if_pos rfl, h]
 have h' : getE s ((0 : Nat) : Int) ((1 : Nat) : Int) = 0 := h
 exact ⟨(get_num h').2.1, rfl, rfl⟩
theorem rn_bad {s : ByteArray} (h : ¬ getE s 0 1 = 0) : rnE s 0 0 1 = getE s 0 1 ∧ rnR s 0 0 1 = 0 := by
 unfold rnE rnR
 rw [if_pos rfl, if_pos rfl]
 exact ⟨rfl, by unfold getR; rw [if_neg h]⟩
theorem rn_count (s : ByteArray) : ∃ c : Nat, rnR s 0 0 1 = c ∧ c ≤ 255 := by
 by_cases h : getE s 0 1 = 0
 ·
  rw [(rn_one h).2.2]
  have h' : getE s ((0 : Nat) : Int) ((1 : Nat) : Int) = 0 := h
  have a : getR s 0 1 = getV s 0 1 := (get_num h').1
  have b := getV_bd s 0 1
  have c : pw 1 = 256 := by decide
  exact ⟨(getR s 0 1).toNat, by omega, by omega⟩
 ·
  rw [(rn_bad h).2]
  exact ⟨0, rfl, by omega⟩
def endL (s : ByteArray) : RdL := rdLeaf s (rnP s 0 0 1) (rnE s 0 0 1) (rnR s 0 0 1).toNat
def endI (s : ByteArray) : RdI := rdInn s (rnP s 0 0 1) (rnE s 0 0 1) (rnR s 0 0 1).toNat
theorem leafR_end (s : ByteArray) : leafR s = if (endL s).e = 0 then (if (endL s).p = s.size ∧ rightN true (endL s).ks (endL s).vs [] true = true then .inr (true, (endL s).ks, (endL s).vs, []) else .inl 4) else .inl (endL s).e := by
 by_cases h : getE s 0 1 = 0
 ·
  obtain ⟨e1, e2, e3⟩ := rn_one h
  have hE : endL s = rdLeaf s 1 0 (getR s 0 1).toNat := by unfold endL; rw [e1, e2, e3]
  have k := rd_leafSt s (getR s 0 1).toNat
  rw [← hE] at k
  unfold leafR
  rw [if_pos h]
  cases hl : leafSt s (getR s 0 1).toNat with
  | inl e =>
   rw [hl] at k
   obtain ⟨k1, k2⟩ := k
   rw [k1, if_neg k2]
  | inr x =>
   obtain ⟨p, ks, vs⟩ := x
   rw [hl] at k
   simp only at k
   rw [k]
   simp only [if_true]
 ·
  obtain ⟨e1, e2⟩ := rn_bad h
  have hE : (endL s).e = getE s 0 1 := by unfold endL; rw [e2]; exact e1
  unfold leafR
  rw [if_neg h, hE, if_neg h]
theorem innR_end (s : ByteArray) : innR s = if (endI s).e = 0 then (if (endI s).p = s.size ∧ rightN false (endI s).ks [] (endI s).cs true = true then .inr (false, (endI s).ks, [], (endI s).cs) else .inl 4) else .inl (endI s).e := by
 by_cases h : getE s 0 1 = 0
 ·
  obtain ⟨e1, e2, e3⟩ := rn_one h
  have hE : endI s = rdInn s 1 0 (getR s 0 1).toNat := by unfold endI; rw [e1, e2, e3]
  have k := rd_innSt s (getR s 0 1).toNat
  rw [← hE] at k
  unfold innR
  rw [if_pos h]
  cases hl : innSt s (getR s 0 1).toNat with
  | inl e =>
   rw [hl] at k
   obtain ⟨k1, k2⟩ := k
   rw [k1, if_neg k2]
  | inr x =>
   obtain ⟨p, ks, vs⟩ := x
   rw [hl] at k
   simp only at k
   rw [k]
 ·
  obtain ⟨e1, e2⟩ := rn_bad h
  have hE : (endI s).e = getE s 0 1 := by
   unfold endI
   rw [e2]
   show rnE s _ (rnE s 0 0 1) 2 = _
   rw [e1]
   unfold rnE
   rw [if_neg h]
  unfold innR
  rw [if_neg h, hE, if_neg h]
set_option maxRecDepth 20000 in
set_option maxHeartbeats 1000000 in
theorem rnodeL_any (r : Nat) (s : ByteArray) (w : World) (b : Box3 w r (.string s) (.int .i64 0) (.int .i64 0)) (hs : s.size ≤ maxLen) :
  Calls Try.prog 51 #[.pointer (some ⟨r, 0, none⟩), .int .i64 1] w fun x w' => ∃ n a d n' a' d' n'' a'' d'', x = .returned (.agg #[.bool true, .slice a n d, .slice a' n' d', .slice a'' n'' d'']) ∧ n = (endL s).ks.length ∧ n' = (endL s).vs.length ∧ n'' = ([] : List Int).length ∧
   IsS w' a d (endL s).ks ∧ IsS w' a' d' (endL s).vs ∧ IsI w' a'' d'' [] ∧ From w.heap.size a ∧ From w.heap.size a' ∧ From w.heap.size a'' ∧ Box3 w' r (.string s) (.int .i64 (endL s).p) (.int .i64 (endL s).e) ∧ Turns (fun k => k = r) w w' := by
 have hrw : r < w.heap.size := b.lt
 obtain ⟨W0, hW0⟩ : ∃ W0, W0 = w.alloc (.cells #[.bool false, .slice none 0 0, .slice none 0 0, .slice none 0 0] 62) := ⟨_, rfl⟩
 have b00 : Box4 W0 w.heap.size (.bool false) (.slice none 0 0) (.slice none 0 0) (.slice none 0 0) := by rw [hW0]; exact box4_new _ _ _ _ _ _ rfl
 have hB00 : Below w.heap.size w W0 := by rw [hW0]; exact (Below.refl _ _).alloc (Nat.le_refl _) _
 obtain ⟨V1, b1, t1, hsz, c1⟩ := rnumber_any r s 0 0 1 W0 (b.below hB00) hs
 obtain ⟨c, hc, hc2⟩ := rn_count s
 have hE : endL s = rdLeaf s (rnP s 0 0 1) (rnE s 0 0 1) c := by unfold endL; rw [hc]; rfl
 rw [hc] at c1
 have c2 := rleaf_any r c s (rnP s 0 0 1) (rnE s 0 0 1) V1 b1 hs hc2
 rw [← hE] at c2
 obtain ⟨l1, l2⟩ := rdLeaf_len s (rnP s 0 0 1) (rnE s 0 0 1) c
 rw [← hE] at l1 l2
 have b01 := b00.turns t1 (by omega)
 have hwV : w.heap.size < V1.heap.size := b01.lt
 have T1 : Turns (fun k => k = r ∨ w.heap.size ≤ k) w V1 := (Turns.of_below hB00).trans (t1.mono fun k hk => .inl hk)
 have L1 : Hid ((endL s).ks.length = c) := l1
 have L2 : Hid ((endL s).vs.length = c) := l2
 clear hE hc b b1 b00 hsz t1 l1 l2
 generalize endL s = R at *
 go_enter Try.func51, Try.ntmps51
 go_wp2_with (first
  | (go_at_call 62; rw [← hW0]; refine c1.mono ?_; rintro y w1 ⟨rfl, hw1⟩; have hw1' := hw1.symm; subst hw1'; clear hw1)
  | (go_at_call 63; refine c2.mono ?_; rintro y w2 ⟨a, d, a', d', rfl, i1, i2, j1, j2, b2, t2⟩; have I1 : Hid (IsS w2 a d R.ks) := i1; have I2 : Hid (IsS w2 a' d' R.vs) := i2; have B2 : Hid (Box3 w2 r (.string s) (.int .i64 R.p) (.int .i64 R.e)) := b2; have T2 : Hid (Turns (fun k => k = r) V1 w2) := t2; have J1 : Hid (From V1.heap.size a) := j1; have J2 : Hid (From V1.heap.size a') := j2; obtain ⟨⟨r0, r1, r2, r3⟩, g0, g1, g2, g3⟩ := b01.turns t2 (by omega); clear i1 i2 b2 t2 j1 j2))
 have T4 := turns_put4 w2 w.heap.size (.bool true) (.slice a c d) (.slice a' c d') (.slice none 0 0)
 refine bodyPost_ret (v := .agg #[.bool true, .slice a c d, .slice a' c d', .slice none 0 0]) (by simp [results, Try.results51, go_sem, r0, r1, r2, r3]) rfl ⟨c, a, d, c, a', d', 0, none, 0, rfl, L1.out.symm, L2.out.symm, rfl, I1.out.turns T4 (fun x hx e => by have := J1.out x hx; omega), I2.out.turns T4 (fun x hx e => by have := J2.out x hx; omega), isI_nil _, J1.out.mono (by omega), J2.out.mono (by omega), from_nil _, B2.out.turns T4 (by omega), ?_⟩
 exact ((T1.trans (T2.out.mono fun k hk => .inl hk)).trans (T4.mono fun k hk => .inr (by omega))).mono' fun k hk hh => by rcases hh with h | h <;> omega
set_option maxRecDepth 20000 in
set_option maxHeartbeats 1000000 in
theorem rnodeI_any (r : Nat) (s : ByteArray) (w : World) (b : Box3 w r (.string s) (.int .i64 0) (.int .i64 0)) (hs : s.size ≤ maxLen) :
  Calls Try.prog 51 #[.pointer (some ⟨r, 0, none⟩), .int .i64 2] w fun x w' => ∃ n a d n' a' d' n'' a'' d'', x = .returned (.agg #[.bool false, .slice a n d, .slice a' n' d', .slice a'' n'' d'']) ∧ n = (endI s).ks.length ∧ n' = ([] : List ByteArray).length ∧ n'' = (endI s).cs.length ∧
   IsS w' a d (endI s).ks ∧ IsS w' a' d' [] ∧ IsI w' a'' d'' (endI s).cs ∧ From w.heap.size a ∧ From w.heap.size a' ∧ From w.heap.size a'' ∧ Box3 w' r (.string s) (.int .i64 (endI s).p) (.int .i64 (endI s).e) ∧ Turns (fun k => k = r) w w' := by
 have hrw : r < w.heap.size := b.lt
 obtain ⟨W0, hW0⟩ : ∃ W0, W0 = w.alloc (.cells #[.bool false, .slice none 0 0, .slice none 0 0, .slice none 0 0] 62) := ⟨_, rfl⟩
 have b00 : Box4 W0 w.heap.size (.bool false) (.slice none 0 0) (.slice none 0 0) (.slice none 0 0) := by rw [hW0]; exact box4_new _ _ _ _ _ _ rfl
 have hB00 : Below w.heap.size w W0 := by rw [hW0]; exact (Below.refl _ _).alloc (Nat.le_refl _) _
 obtain ⟨V1, b1, t1, hsz, c1⟩ := rnumber_any r s 0 0 1 W0 (b.below hB00) hs
 obtain ⟨c, hc, hc2⟩ := rn_count s
 have hE : endI s = rdInn s (rnP s 0 0 1) (rnE s 0 0 1) c := by unfold endI; rw [hc]; rfl
 rw [hc] at c1
 have c2 := rinner_any r c s (rnP s 0 0 1) (rnE s 0 0 1) V1 b1 hs hc2
 rw [← hE] at c2
 obtain ⟨l1, l2⟩ := rdInn_len s (rnP s 0 0 1) (rnE s 0 0 1) c
 rw [← hE] at l1 l2
 have b01 := b00.turns t1 (by omega)
 have hwV : w.heap.size < V1.heap.size := b01.lt
 have T1 : Turns (fun k => k = r ∨ w.heap.size ≤ k) w V1 := (Turns.of_below hB00).trans (t1.mono fun k hk => .inl hk)
 have L1 : Hid ((endI s).ks.length = c) := l1
 have L2 : Hid ((endI s).cs.length = c + 1) := l2
 clear hE hc b b1 b00 hsz t1 l1 l2
 generalize endI s = R at *
 go_enter Try.func51, Try.ntmps51
 go_wp2_with (first
  | (go_at_call 62; rw [← hW0]; refine c1.mono ?_; rintro y w1 ⟨rfl, hw1⟩; have hw1' := hw1.symm; subst hw1'; clear hw1)
  | (go_at_call 64; refine c2.mono ?_; rintro y w2 ⟨a, d, a'', d'', rfl, i1, i2, j1, j2, b2, t2⟩; have I1 : Hid (IsS w2 a d R.ks) := i1; have I2 : Hid (IsI w2 a'' d'' R.cs) := i2; have B2 : Hid (Box3 w2 r (.string s) (.int .i64 R.p) (.int .i64 R.e)) := b2; have T2 : Hid (Turns (fun k => k = r) V1 w2) := t2; have J1 : Hid (From V1.heap.size a) := j1; have J2 : Hid (From V1.heap.size a'') := j2; obtain ⟨⟨r0, r1, r2, r3⟩, g0, g1, g2, g3⟩ := b01.turns t2 (by omega); clear i1 i2 b2 t2 j1 j2))
 have T4 := turns_put4 w2 w.heap.size (.bool false) (.slice a c d) (.slice none 0 0) (.slice a'' (c + 1) d'')
 refine bodyPost_ret (v := .agg #[.bool false, .slice a c d, .slice none 0 0, .slice a'' (c + 1) d'']) (by simp [results, Try.results51, go_sem, r0, r1, r2, r3]) rfl ⟨c, a, d, 0, none, 0, c + 1, a'', d'', rfl, L1.out.symm, rfl, L2.out.symm, I1.out.turns T4 (fun x hx e => by have := J1.out x hx; omega), isS_nil _, I2.out.turns T4 (fun x hx e => by have := J2.out x hx; omega), J1.out.mono (by omega), from_nil _, J2.out.mono (by omega), B2.out.turns T4 (by omega), ?_⟩
 exact ((T1.trans (T2.out.mono fun k hk => .inl hk)).trans (T4.mono fun k hk => .inr (by omega))).mono' fun k hk hh => by rcases hh with h | h <;> omega
def gE (kind : Int) (s : ByteArray) : Int := match nodeR kind s with | .inl e => e | .inr _ => 0
def gN (kind : Int) (s : ByteArray) : Bool × List ByteArray × List ByteArray × List Int := match nodeR kind s with | .inl _ => (false, [], [], []) | .inr x => x
theorem g_inl {kind e : Int} {s : ByteArray} (h : nodeR kind s = .inl e) : gE kind s = e ∧ gN kind s = (false, [], [], []) := by unfold gE gN; rw [h]; exact ⟨rfl, rfl⟩
theorem g_inr {kind : Int} {s : ByteArray} {x : Bool × List ByteArray × List ByteArray × List Int} (h : nodeR kind s = .inr x) : gE kind s = 0 ∧ gN kind s = x := by unfold gE gN; rw [h]; exact ⟨rfl, rfl⟩
def Answers (w : World) (x : Ending) (w' : World) (l : Bool) (ks vs : List ByteArray) (cs : List Int) (E : Int) : Prop :=
 ∃ n a d n' a' d' n'' a'' d'', x = .returned (.tuple #[.agg #[.bool l, .slice a n d, .slice a' n' d', .slice a'' n'' d''], .int .i64 E]) ∧ n = ks.length ∧ n' = vs.length ∧ n'' = cs.length ∧
  IsS w' a d ks ∧ IsS w' a' d' vs ∧ IsI w' a'' d'' cs ∧ From w.heap.size a ∧ From w.heap.size a' ∧ From w.heap.size a'' ∧ Below w.heap.size w w'
theorem answers_none {w w' : World} {E : Int} (hb : Below w.heap.size w w') : Answers w (.returned (.tuple #[.agg #[.bool false, .slice none 0 0, .slice none 0 0, .slice none 0 0], .int .i64 E])) w' false [] [] [] E :=
 ⟨0, none, 0, 0, none, 0, 0, none, 0, rfl, rfl, rfl, rfl, isS_nil _, isS_nil _, isI_nil _, from_nil _, from_nil _, from_nil _, hb⟩
set_option maxRecDepth 20000 in
set_option maxHeartbeats 4000000 in
theorem nodeGet_core (kind : Int) (s : ByteArray) (w : World) (hs : s.size ≤ maxLen) (hk : kind = 1 ∨ kind = 2) (l : Bool) (ks vs : List ByteArray) (cs : List Int) (P E : Int)
  (cN : ∀ V r, Box3 V r (.string s) (.int .i64 0) (.int .i64 0) → Calls Try.prog 51 #[.pointer (some ⟨r, 0, none⟩), .int .i64 kind] V fun x w' => ∃ n a d n' a' d' n'' a'' d'', x = .returned (.agg #[.bool l, .slice a n d, .slice a' n' d', .slice a'' n'' d'']) ∧ n = ks.length ∧ n' = vs.length ∧ n'' = cs.length ∧
   IsS w' a d ks ∧ IsS w' a' d' vs ∧ IsI w' a'' d'' cs ∧ From V.heap.size a ∧ From V.heap.size a' ∧ From V.heap.size a'' ∧ Box3 w' r (.string s) (.int .i64 P) (.int .i64 E) ∧ Turns (fun k => k = r) V w') :
  Calls Try.prog 40 #[.int .i64 kind, .string s] w fun x w' => if E = 0 then (if P = s.size ∧ rightN l ks vs cs true = true then Answers w x w' l ks vs cs 0 else Answers w x w' false [] [] [] 4) else Answers w x w' false [] [] [] E := by
 obtain ⟨W, hW⟩ : ∃ W, W = (w.alloc (.cells #[.bool false, .slice none 0 0, .slice none 0 0, .slice none 0 0] 62)).alloc (.cells #[.string s, .int .i64 0, .int .i64 0] 98) := ⟨_, rfl⟩
 have b0 : Box4 W w.heap.size (.bool false) (.slice none 0 0) (.slice none 0 0) (.slice none 0 0) := by rw [hW]; exact (box4_new _ _ _ _ _ _ rfl).alloc _
 have bR : Box3 W (w.heap.size + 1) (.string s) (.int .i64 0) (.int .i64 0) := by
  rw [hW]
  have := box3_new (w.alloc (.cells #[.bool false, .slice none 0 0, .slice none 0 0, .slice none 0 0] 62)) (.string s) (.int .i64 0) (.int .i64 0) 98
  simpa using this
 have hB0 : Below w.heap.size w W := by rw [hW]; exact ((Below.refl _ _).alloc (Nat.le_refl _) _).alloc (by simp) _
 have hz : w.heap.size + 2 ≤ W.heap.size := by rw [hW]; simp
 replace cN := cN W (w.heap.size + 1) bR
 have hm : s.size ≤ 9223372036854775807 := hs
 clear bR hs
 have hle : w.heap.size ≤ w.heap.size := Nat.le_refl _
 by_cases hE : E = 0
 ·
  subst hE
  simp only [if_true]
  by_cases hP : P = s.size
  ·
   subst hP
   have hP' : ((s.size : Int) != s.size) = false := by simp
   have cR : ∀ V a d a' d' a'' d'', IsS V a d ks → IsS V a' d' vs → IsI V a'' d'' cs → Calls Try.prog 41 #[.agg #[.bool l, .slice a ks.length d, .slice a' vs.length d', .slice a'' cs.length d''], .bool true] V fun e w' => e = .returned (.bool (rightN l ks vs cs true)) ∧ Below V.heap.size V w' := fun V a d a' d' a'' d'' h1 h2 h3 => nodeRight_any _ _ _ _ _ _ _ _ _ _ _ _ _ true _ rfl rfl rfl h1 h2 h3
   cases hr : rightN l ks vs cs true with
   | true =>
    rw [hr] at cR
    simp only [and_self, if_true]
    clear hr
    rcases hk with rfl | rfl
    ·
     go_enter Try.func40, Try.ntmps40
     go_wp2_with (first
      | (go_at_call 51; rw [← hW]; refine cN.mono ?_; rintro y w2 ⟨n, a, d, n', a', d', n'', a'', d'', rfl, rfl, rfl, rfl, i1, i2, i3, j1, j2, j3, b2, t2⟩; have b02 := b0.turns t2 (by omega); obtain ⟨⟨p0, p1, p2⟩, -⟩ := id b2; have p1' := cell_alloc p1; have p2' := cell_alloc p2; have zz := fun o => b02.alloc o; have z0 := fun o => (zz o).1.1; have z1 := fun o => (zz o).1.2.1; have z2 := fun o => (zz o).1.2.2.1; have z3 := fun o => (zz o).1.2.2.2; have y0 := fun o => (zz o).2.1; have y1 := fun o => (zz o).2.2.1; have y2 := fun o => (zz o).2.2.2.1; have y3 := fun o => (zz o).2.2.2.2; have B2 : Hid (Below w.heap.size w w2) := Below.turns hB0 t2 (fun k hk => by omega); have I1 : Hid (IsS w2 a d ks) := i1; have I2 : Hid (IsS w2 a' d' vs) := i2; have I3 : Hid (IsI w2 a'' d'' cs) := i3; have J1 : Hid (From W.heap.size a) := j1; have J2 : Hid (From W.heap.size a') := j2; have J3 : Hid (From W.heap.size a'') := j3; have hz2 : Hid (W.heap.size ≤ w2.heap.size) := t2.size; clear i1 i2 i3 j1 j2 j3 b2 t2 p0 p1 p2 zz b02)
      | (go_at_call 41; have hA2 : Below w2.heap.size w2 (w2.alloc (.cells #[.bool l, .slice a ks.length d, .slice a' vs.length d', .slice a'' cs.length d''] 62)) := (Below.refl _ _).alloc (Nat.le_refl _) _; refine (cR _ a d a' d' a'' d'' (I1.out.below hA2) (I2.out.below hA2) (I3.out.below hA2)).mono ?_; rintro y w3 ⟨rfl, hb⟩; have b7 := (box4_new w2 (.bool l) (.slice a ks.length d) (.slice a' vs.length d') (.slice a'' cs.length d'') 62 rfl).below hb; have bO := (Box4.below (h := w.heap.size) (v0 := .bool false) (v1 := .slice none 0 0) (v2 := .slice none 0 0) (v3 := .slice none 0 0) ⟨⟨z0 _, z1 _, z2 _, z3 _⟩, y0 _, y1 _, y2 _, y3 _⟩ hb); have B3 : Hid (Below w.heap.size w w3) := Below.tr (Below.tr B2.out hA2) hb; replace I1 : Hid (IsS w3 a d ks) := (I1.out.below hA2).below hb; replace I2 : Hid (IsS w3 a' d' vs) := (I2.out.below hA2).below hb; replace I3 : Hid (IsI w3 a'' d'' cs) := (I3.out.below hA2).below hb; clear hb hA2 z0 z1 z2 z3 y0 y1 y2 y3 p1' p2'; obtain ⟨⟨m0, m1, m2, m3⟩, -⟩ := b7; obtain ⟨⟨r0, r1, r2, r3⟩, g0, g1, g2, g3⟩ := bO))
     have T4 := turns_put4 w3 w.heap.size (.bool l) (.slice a ks.length d) (.slice a' vs.length d') (.slice a'' cs.length d'')
     refine bodyPost_ret (v := .tuple #[.agg #[.bool l, .slice a ks.length d, .slice a' vs.length d', .slice a'' cs.length d''], .int .i64 0]) (by simp [results, Try.results40, go_sem, r0, r1, r2, r3]) rfl ⟨_, a, d, _, a', d', _, a'', d'', rfl, rfl, rfl, rfl, I1.out.turns T4 (fun x hx e => by have := J1.out x hx; omega), I2.out.turns T4 (fun x hx e => by have := J2.out x hx; omega), I3.out.turns T4 (fun x hx e => by have := J3.out x hx; omega), J1.out.mono (by omega), J2.out.mono (by omega), J3.out.mono (by omega), Below.turns B3.out T4 (fun k hk => by omega)⟩
    ·
     go_enter Try.func40, Try.ntmps40
     go_wp2_with (first
      | (go_at_call 51; rw [← hW]; refine cN.mono ?_; rintro y w2 ⟨n, a, d, n', a', d', n'', a'', d'', rfl, rfl, rfl, rfl, i1, i2, i3, j1, j2, j3, b2, t2⟩; have b02 := b0.turns t2 (by omega); obtain ⟨⟨p0, p1, p2⟩, -⟩ := id b2; have p1' := cell_alloc p1; have p2' := cell_alloc p2; have zz := fun o => b02.alloc o; have z0 := fun o => (zz o).1.1; have z1 := fun o => (zz o).1.2.1; have z2 := fun o => (zz o).1.2.2.1; have z3 := fun o => (zz o).1.2.2.2; have y0 := fun o => (zz o).2.1; have y1 := fun o => (zz o).2.2.1; have y2 := fun o => (zz o).2.2.2.1; have y3 := fun o => (zz o).2.2.2.2; have B2 : Hid (Below w.heap.size w w2) := Below.turns hB0 t2 (fun k hk => by omega); have I1 : Hid (IsS w2 a d ks) := i1; have I2 : Hid (IsS w2 a' d' vs) := i2; have I3 : Hid (IsI w2 a'' d'' cs) := i3; have J1 : Hid (From W.heap.size a) := j1; have J2 : Hid (From W.heap.size a') := j2; have J3 : Hid (From W.heap.size a'') := j3; have hz2 : Hid (W.heap.size ≤ w2.heap.size) := t2.size; clear i1 i2 i3 j1 j2 j3 b2 t2 p0 p1 p2 zz b02)
      | (go_at_call 41; have hA2 : Below w2.heap.size w2 (w2.alloc (.cells #[.bool l, .slice a ks.length d, .slice a' vs.length d', .slice a'' cs.length d''] 62)) := (Below.refl _ _).alloc (Nat.le_refl _) _; refine (cR _ a d a' d' a'' d'' (I1.out.below hA2) (I2.out.below hA2) (I3.out.below hA2)).mono ?_; rintro y w3 ⟨rfl, hb⟩; have b7 := (box4_new w2 (.bool l) (.slice a ks.length d) (.slice a' vs.length d') (.slice a'' cs.length d'') 62 rfl).below hb; have bO := (Box4.below (h := w.heap.size) (v0 := .bool false) (v1 := .slice none 0 0) (v2 := .slice none 0 0) (v3 := .slice none 0 0) ⟨⟨z0 _, z1 _, z2 _, z3 _⟩, y0 _, y1 _, y2 _, y3 _⟩ hb); have B3 : Hid (Below w.heap.size w w3) := Below.tr (Below.tr B2.out hA2) hb; replace I1 : Hid (IsS w3 a d ks) := (I1.out.below hA2).below hb; replace I2 : Hid (IsS w3 a' d' vs) := (I2.out.below hA2).below hb; replace I3 : Hid (IsI w3 a'' d'' cs) := (I3.out.below hA2).below hb; clear hb hA2 z0 z1 z2 z3 y0 y1 y2 y3 p1' p2'; obtain ⟨⟨m0, m1, m2, m3⟩, -⟩ := b7; obtain ⟨⟨r0, r1, r2, r3⟩, g0, g1, g2, g3⟩ := bO))
     have T4 := turns_put4 w3 w.heap.size (.bool l) (.slice a ks.length d) (.slice a' vs.length d') (.slice a'' cs.length d'')
     refine bodyPost_ret (v := .tuple #[.agg #[.bool l, .slice a ks.length d, .slice a' vs.length d', .slice a'' cs.length d''], .int .i64 0]) (by simp [results, Try.results40, go_sem, r0, r1, r2, r3]) rfl ⟨_, a, d, _, a', d', _, a'', d'', rfl, rfl, rfl, rfl, I1.out.turns T4 (fun x hx e => by have := J1.out x hx; omega), I2.out.turns T4 (fun x hx e => by have := J2.out x hx; omega), I3.out.turns T4 (fun x hx e => by have := J3.out x hx; omega), J1.out.mono (by omega), J2.out.mono (by omega), J3.out.mono (by omega), Below.turns B3.out T4 (fun k hk => by omega)⟩
   | false =>
    rw [hr] at cR
    simp only [and_false, if_false, Bool.false_eq_true]
    clear hr
    rcases hk with rfl | rfl
    ·
     go_enter Try.func40, Try.ntmps40
     go_wp2_with (first
      | (go_at_call 51; rw [← hW]; refine cN.mono ?_; rintro y w2 ⟨n, a, d, n', a', d', n'', a'', d'', rfl, rfl, rfl, rfl, i1, i2, i3, j1, j2, j3, b2, t2⟩; have b02 := b0.turns t2 (by omega); obtain ⟨⟨p0, p1, p2⟩, -⟩ := id b2; have p1' := cell_alloc p1; have p2' := cell_alloc p2; have zz := fun o => b02.alloc o; have z0 := fun o => (zz o).1.1; have z1 := fun o => (zz o).1.2.1; have z2 := fun o => (zz o).1.2.2.1; have z3 := fun o => (zz o).1.2.2.2; have y0 := fun o => (zz o).2.1; have y1 := fun o => (zz o).2.2.1; have y2 := fun o => (zz o).2.2.2.1; have y3 := fun o => (zz o).2.2.2.2; have B2 : Hid (Below w.heap.size w w2) := Below.turns hB0 t2 (fun k hk => by omega); have I1 : Hid (IsS w2 a d ks) := i1; have I2 : Hid (IsS w2 a' d' vs) := i2; have I3 : Hid (IsI w2 a'' d'' cs) := i3; have J1 : Hid (From W.heap.size a) := j1; have J2 : Hid (From W.heap.size a') := j2; have J3 : Hid (From W.heap.size a'') := j3; have hz2 : Hid (W.heap.size ≤ w2.heap.size) := t2.size; clear i1 i2 i3 j1 j2 j3 b2 t2 p0 p1 p2 zz b02)
      | (go_at_call 41; have hA2 : Below w2.heap.size w2 (w2.alloc (.cells #[.bool l, .slice a ks.length d, .slice a' vs.length d', .slice a'' cs.length d''] 62)) := (Below.refl _ _).alloc (Nat.le_refl _) _; refine (cR _ a d a' d' a'' d'' (I1.out.below hA2) (I2.out.below hA2) (I3.out.below hA2)).mono ?_; rintro y w3 ⟨rfl, hb⟩; have b7 := (box4_new w2 (.bool l) (.slice a ks.length d) (.slice a' vs.length d') (.slice a'' cs.length d'') 62 rfl).below hb; have bO := (Box4.below (h := w.heap.size) (v0 := .bool false) (v1 := .slice none 0 0) (v2 := .slice none 0 0) (v3 := .slice none 0 0) ⟨⟨z0 _, z1 _, z2 _, z3 _⟩, y0 _, y1 _, y2 _, y3 _⟩ hb); have B3 : Hid (Below w.heap.size w w3) := Below.tr (Below.tr B2.out hA2) hb; replace I1 : Hid (IsS w3 a d ks) := (I1.out.below hA2).below hb; replace I2 : Hid (IsS w3 a' d' vs) := (I2.out.below hA2).below hb; replace I3 : Hid (IsI w3 a'' d'' cs) := (I3.out.below hA2).below hb; clear hb hA2 z0 z1 z2 z3 y0 y1 y2 y3 p1' p2'; obtain ⟨⟨m0, m1, m2, m3⟩, -⟩ := b7; obtain ⟨⟨r0, r1, r2, r3⟩, g0, g1, g2, g3⟩ := bO))
     have T4 := turns_put4 w3 w.heap.size (.bool false) (.slice none 0 0) (.slice none 0 0) (.slice none 0 0)
     refine bodyPost_ret (v := .tuple #[.agg #[.bool false, .slice none 0 0, .slice none 0 0, .slice none 0 0], .int .i64 4]) (by simp [results, Try.results40, go_sem, r0, r1, r2, r3]) rfl (answers_none (Below.turns B3.out T4 (fun k hk => by omega)))
    ·
     go_enter Try.func40, Try.ntmps40
     go_wp2_with (first
      | (go_at_call 51; rw [← hW]; refine cN.mono ?_; rintro y w2 ⟨n, a, d, n', a', d', n'', a'', d'', rfl, rfl, rfl, rfl, i1, i2, i3, j1, j2, j3, b2, t2⟩; have b02 := b0.turns t2 (by omega); obtain ⟨⟨p0, p1, p2⟩, -⟩ := id b2; have p1' := cell_alloc p1; have p2' := cell_alloc p2; have zz := fun o => b02.alloc o; have z0 := fun o => (zz o).1.1; have z1 := fun o => (zz o).1.2.1; have z2 := fun o => (zz o).1.2.2.1; have z3 := fun o => (zz o).1.2.2.2; have y0 := fun o => (zz o).2.1; have y1 := fun o => (zz o).2.2.1; have y2 := fun o => (zz o).2.2.2.1; have y3 := fun o => (zz o).2.2.2.2; have B2 : Hid (Below w.heap.size w w2) := Below.turns hB0 t2 (fun k hk => by omega); have I1 : Hid (IsS w2 a d ks) := i1; have I2 : Hid (IsS w2 a' d' vs) := i2; have I3 : Hid (IsI w2 a'' d'' cs) := i3; have J1 : Hid (From W.heap.size a) := j1; have J2 : Hid (From W.heap.size a') := j2; have J3 : Hid (From W.heap.size a'') := j3; have hz2 : Hid (W.heap.size ≤ w2.heap.size) := t2.size; clear i1 i2 i3 j1 j2 j3 b2 t2 p0 p1 p2 zz b02)
      | (go_at_call 41; have hA2 : Below w2.heap.size w2 (w2.alloc (.cells #[.bool l, .slice a ks.length d, .slice a' vs.length d', .slice a'' cs.length d''] 62)) := (Below.refl _ _).alloc (Nat.le_refl _) _; refine (cR _ a d a' d' a'' d'' (I1.out.below hA2) (I2.out.below hA2) (I3.out.below hA2)).mono ?_; rintro y w3 ⟨rfl, hb⟩; have b7 := (box4_new w2 (.bool l) (.slice a ks.length d) (.slice a' vs.length d') (.slice a'' cs.length d'') 62 rfl).below hb; have bO := (Box4.below (h := w.heap.size) (v0 := .bool false) (v1 := .slice none 0 0) (v2 := .slice none 0 0) (v3 := .slice none 0 0) ⟨⟨z0 _, z1 _, z2 _, z3 _⟩, y0 _, y1 _, y2 _, y3 _⟩ hb); have B3 : Hid (Below w.heap.size w w3) := Below.tr (Below.tr B2.out hA2) hb; replace I1 : Hid (IsS w3 a d ks) := (I1.out.below hA2).below hb; replace I2 : Hid (IsS w3 a' d' vs) := (I2.out.below hA2).below hb; replace I3 : Hid (IsI w3 a'' d'' cs) := (I3.out.below hA2).below hb; clear hb hA2 z0 z1 z2 z3 y0 y1 y2 y3 p1' p2'; obtain ⟨⟨m0, m1, m2, m3⟩, -⟩ := b7; obtain ⟨⟨r0, r1, r2, r3⟩, g0, g1, g2, g3⟩ := bO))
     have T4 := turns_put4 w3 w.heap.size (.bool false) (.slice none 0 0) (.slice none 0 0) (.slice none 0 0)
     refine bodyPost_ret (v := .tuple #[.agg #[.bool false, .slice none 0 0, .slice none 0 0, .slice none 0 0], .int .i64 4]) (by simp [results, Try.results40, go_sem, r0, r1, r2, r3]) rfl (answers_none (Below.turns B3.out T4 (fun k hk => by omega)))
  ·
   have hP' : (P != (s.size : Int)) = true := by simpa using hP
   simp only [hP, false_and, if_false]
   rcases hk with rfl | rfl
   ·
    go_enter Try.func40, Try.ntmps40
    go_wp2_with (first
     | (go_at_call 51; rw [← hW]; refine cN.mono ?_; rintro y w2 ⟨n, a, d, n', a', d', n'', a'', d'', rfl, rfl, rfl, rfl, i1, i2, i3, j1, j2, j3, b2, t2⟩; have b02 := b0.turns t2 (by omega); obtain ⟨⟨p0, p1, p2⟩, -⟩ := id b2; have p1' := cell_alloc p1; have p2' := cell_alloc p2; have zz := fun o => b02.alloc o; have z0 := fun o => (zz o).1.1; have z1 := fun o => (zz o).1.2.1; have z2 := fun o => (zz o).1.2.2.1; have z3 := fun o => (zz o).1.2.2.2; have y0 := fun o => (zz o).2.1; have y1 := fun o => (zz o).2.2.1; have y2 := fun o => (zz o).2.2.2.1; have y3 := fun o => (zz o).2.2.2.2; have B2 : Hid (Below w.heap.size w w2) := Below.turns hB0 t2 (fun k hk => by omega); have I1 : Hid (IsS w2 a d ks) := i1; have I2 : Hid (IsS w2 a' d' vs) := i2; have I3 : Hid (IsI w2 a'' d'' cs) := i3; have J1 : Hid (From W.heap.size a) := j1; have J2 : Hid (From W.heap.size a') := j2; have J3 : Hid (From W.heap.size a'') := j3; have hz2 : Hid (W.heap.size ≤ w2.heap.size) := t2.size; clear i1 i2 i3 j1 j2 j3 b2 t2 p0 p1 p2 zz b02))
    have hA2 : Below w2.heap.size w2 (w2.alloc (.cells #[.bool l, .slice a ks.length d, .slice a' vs.length d', .slice a'' cs.length d''] 62)) := (Below.refl _ _).alloc (Nat.le_refl _) _
    have T4 := turns_put4 (w2.alloc (.cells #[.bool l, .slice a ks.length d, .slice a' vs.length d', .slice a'' cs.length d''] 62)) w.heap.size (.bool false) (.slice none 0 0) (.slice none 0 0) (.slice none 0 0)
    refine bodyPost_ret (v := .tuple #[.agg #[.bool false, .slice none 0 0, .slice none 0 0, .slice none 0 0], .int .i64 4]) (by simp [results, Try.results40, go_sem, z0, z1, z2, z3]) rfl (answers_none (Below.turns (Below.tr B2.out hA2) T4 (fun k hk => by omega)))
   ·
    go_enter Try.func40, Try.ntmps40
    go_wp2_with (first
     | (go_at_call 51; rw [← hW]; refine cN.mono ?_; rintro y w2 ⟨n, a, d, n', a', d', n'', a'', d'', rfl, rfl, rfl, rfl, i1, i2, i3, j1, j2, j3, b2, t2⟩; have b02 := b0.turns t2 (by omega); obtain ⟨⟨p0, p1, p2⟩, -⟩ := id b2; have p1' := cell_alloc p1; have p2' := cell_alloc p2; have zz := fun o => b02.alloc o; have z0 := fun o => (zz o).1.1; have z1 := fun o => (zz o).1.2.1; have z2 := fun o => (zz o).1.2.2.1; have z3 := fun o => (zz o).1.2.2.2; have y0 := fun o => (zz o).2.1; have y1 := fun o => (zz o).2.2.1; have y2 := fun o => (zz o).2.2.2.1; have y3 := fun o => (zz o).2.2.2.2; have B2 : Hid (Below w.heap.size w w2) := Below.turns hB0 t2 (fun k hk => by omega); have I1 : Hid (IsS w2 a d ks) := i1; have I2 : Hid (IsS w2 a' d' vs) := i2; have I3 : Hid (IsI w2 a'' d'' cs) := i3; have J1 : Hid (From W.heap.size a) := j1; have J2 : Hid (From W.heap.size a') := j2; have J3 : Hid (From W.heap.size a'') := j3; have hz2 : Hid (W.heap.size ≤ w2.heap.size) := t2.size; clear i1 i2 i3 j1 j2 j3 b2 t2 p0 p1 p2 zz b02))
    have hA2 : Below w2.heap.size w2 (w2.alloc (.cells #[.bool l, .slice a ks.length d, .slice a' vs.length d', .slice a'' cs.length d''] 62)) := (Below.refl _ _).alloc (Nat.le_refl _) _
    have T4 := turns_put4 (w2.alloc (.cells #[.bool l, .slice a ks.length d, .slice a' vs.length d', .slice a'' cs.length d''] 62)) w.heap.size (.bool false) (.slice none 0 0) (.slice none 0 0) (.slice none 0 0)
    refine bodyPost_ret (v := .tuple #[.agg #[.bool false, .slice none 0 0, .slice none 0 0, .slice none 0 0], .int .i64 4]) (by simp [results, Try.results40, go_sem, z0, z1, z2, z3]) rfl (answers_none (Below.turns (Below.tr B2.out hA2) T4 (fun k hk => by omega)))
 ·
  have hE' : (E != 0) = true := by simpa using hE
  simp only [hE, if_false]
  rcases hk with rfl | rfl
  ·
   go_enter Try.func40, Try.ntmps40
   go_wp2_with (first
    | (go_at_call 51; rw [← hW]; refine cN.mono ?_; rintro y w2 ⟨n, a, d, n', a', d', n'', a'', d'', rfl, rfl, rfl, rfl, i1, i2, i3, j1, j2, j3, b2, t2⟩; have b02 := b0.turns t2 (by omega); obtain ⟨⟨p0, p1, p2⟩, -⟩ := id b2; have p1' := cell_alloc p1; have p2' := cell_alloc p2; have zz := fun o => b02.alloc o; have z0 := fun o => (zz o).1.1; have z1 := fun o => (zz o).1.2.1; have z2 := fun o => (zz o).1.2.2.1; have z3 := fun o => (zz o).1.2.2.2; have y0 := fun o => (zz o).2.1; have y1 := fun o => (zz o).2.2.1; have y2 := fun o => (zz o).2.2.2.1; have y3 := fun o => (zz o).2.2.2.2; have B2 : Hid (Below w.heap.size w w2) := Below.turns hB0 t2 (fun k hk => by omega); have I1 : Hid (IsS w2 a d ks) := i1; have I2 : Hid (IsS w2 a' d' vs) := i2; have I3 : Hid (IsI w2 a'' d'' cs) := i3; have J1 : Hid (From W.heap.size a) := j1; have J2 : Hid (From W.heap.size a') := j2; have J3 : Hid (From W.heap.size a'') := j3; have hz2 : Hid (W.heap.size ≤ w2.heap.size) := t2.size; clear i1 i2 i3 j1 j2 j3 b2 t2 p0 p1 p2 zz b02))
   go_region
   go_wp2
   have hA2 : Below w2.heap.size w2 (w2.alloc (.cells #[.bool l, .slice a ks.length d, .slice a' vs.length d', .slice a'' cs.length d''] 62)) := (Below.refl _ _).alloc (Nat.le_refl _) _
   have T4 := turns_put4 (w2.alloc (.cells #[.bool l, .slice a ks.length d, .slice a' vs.length d', .slice a'' cs.length d''] 62)) w.heap.size (.bool false) (.slice none 0 0) (.slice none 0 0) (.slice none 0 0)
   refine bodyPost_ret (v := .tuple #[.agg #[.bool false, .slice none 0 0, .slice none 0 0, .slice none 0 0], .int .i64 E]) (by simp [results, Try.results40, go_sem, z0, z1, z2, z3]) rfl (answers_none (Below.turns (Below.tr B2.out hA2) T4 (fun k hk => by omega)).drew)
  ·
   go_enter Try.func40, Try.ntmps40
   go_wp2_with (first
    | (go_at_call 51; rw [← hW]; refine cN.mono ?_; rintro y w2 ⟨n, a, d, n', a', d', n'', a'', d'', rfl, rfl, rfl, rfl, i1, i2, i3, j1, j2, j3, b2, t2⟩; have b02 := b0.turns t2 (by omega); obtain ⟨⟨p0, p1, p2⟩, -⟩ := id b2; have p1' := cell_alloc p1; have p2' := cell_alloc p2; have zz := fun o => b02.alloc o; have z0 := fun o => (zz o).1.1; have z1 := fun o => (zz o).1.2.1; have z2 := fun o => (zz o).1.2.2.1; have z3 := fun o => (zz o).1.2.2.2; have y0 := fun o => (zz o).2.1; have y1 := fun o => (zz o).2.2.1; have y2 := fun o => (zz o).2.2.2.1; have y3 := fun o => (zz o).2.2.2.2; have B2 : Hid (Below w.heap.size w w2) := Below.turns hB0 t2 (fun k hk => by omega); have I1 : Hid (IsS w2 a d ks) := i1; have I2 : Hid (IsS w2 a' d' vs) := i2; have I3 : Hid (IsI w2 a'' d'' cs) := i3; have J1 : Hid (From W.heap.size a) := j1; have J2 : Hid (From W.heap.size a') := j2; have J3 : Hid (From W.heap.size a'') := j3; have hz2 : Hid (W.heap.size ≤ w2.heap.size) := t2.size; clear i1 i2 i3 j1 j2 j3 b2 t2 p0 p1 p2 zz b02))
   go_region
   go_wp2
   have hA2 : Below w2.heap.size w2 (w2.alloc (.cells #[.bool l, .slice a ks.length d, .slice a' vs.length d', .slice a'' cs.length d''] 62)) := (Below.refl _ _).alloc (Nat.le_refl _) _
   have T4 := turns_put4 (w2.alloc (.cells #[.bool l, .slice a ks.length d, .slice a' vs.length d', .slice a'' cs.length d''] 62)) w.heap.size (.bool false) (.slice none 0 0) (.slice none 0 0) (.slice none 0 0)
   refine bodyPost_ret (v := .tuple #[.agg #[.bool false, .slice none 0 0, .slice none 0 0, .slice none 0 0], .int .i64 E]) (by simp [results, Try.results40, go_sem, z0, z1, z2, z3]) rfl (answers_none (Below.turns (Below.tr B2.out hA2) T4 (fun k hk => by omega)).drew)
set_option maxHeartbeats 1000000 in
theorem nodeGet_kind (kind : Int) (s : ByteArray) (w : World) (h1 : kind ≠ 1) (h2 : kind ≠ 2) :
  Calls Try.prog 40 #[.int .i64 kind, .string s] w fun x w' => Answers w x w' false [] [] [] 81 := by
 have k1 : (kind != 1) = true := by simpa using h1
 have k2 : (kind != 2) = true := by simpa using h2
 have b0 := box4_new w (.bool false) (.slice none 0 0) (.slice none 0 0) (.slice none 0 0) 62 rfl
 have hB0 : Below w.heap.size w (w.alloc (.cells #[.bool false, .slice none 0 0, .slice none 0 0, .slice none 0 0] 62)) := (Below.refl _ _).alloc (Nat.le_refl _) _
 have hle : w.heap.size ≤ w.heap.size := Nat.le_refl _
 obtain ⟨⟨z0, z1, z2, z3⟩, y0, y1, y2, y3⟩ := id b0
 go_enter Try.func40, Try.ntmps40
 go_wp2
 refine bodyPost_ret (v := .tuple #[.agg #[.bool false, .slice none 0 0, .slice none 0 0, .slice none 0 0], .int .i64 81]) (by simp [results, Try.results40, go_sem, z0, z1, z2, z3]) rfl (answers_none ?_)
 exact hB0
theorem nodeGet_any (kind : Int) (s : ByteArray) (w : World) (hs : s.size ≤ maxLen) :
  Calls Try.prog 40 #[.int .i64 kind, .string s] w fun x w' => Answers w x w' (gN kind s).1 (gN kind s).2.1 (gN kind s).2.2.1 (gN kind s).2.2.2 (gE kind s) := by
 by_cases h1 : kind = 1
 ·
  have hR : nodeR kind s = leafR s := by unfold nodeR; rw [if_pos h1]
  rw [leafR_end] at hR
  refine (nodeGet_core kind s w hs (.inl h1) true (endL s).ks (endL s).vs [] (endL s).p (endL s).e (fun V r b => by rw [h1]; exact rnodeL_any r s V b hs)).mono fun x w' h => ?_
  by_cases e0 : (endL s).e = 0
  ·
   rw [if_pos e0] at h hR
   by_cases e1 : (endL s).p = s.size ∧ rightN true (endL s).ks (endL s).vs [] true = true
   ·
    rw [if_pos e1] at h hR
    obtain ⟨g1, g2⟩ := g_inr hR
    rw [g1, g2]; exact h
   ·
    rw [if_neg e1] at h hR
    obtain ⟨g1, g2⟩ := g_inl hR
    rw [g1, g2]; exact h
  ·
   rw [if_neg e0] at h hR
   obtain ⟨g1, g2⟩ := g_inl hR
   rw [g1, g2]; exact h
 ·
  by_cases h2 : kind = 2
  ·
   have hR : nodeR kind s = innR s := by unfold nodeR; rw [if_neg h1, if_pos h2]
   rw [innR_end] at hR
   refine (nodeGet_core kind s w hs (.inr h2) false (endI s).ks [] (endI s).cs (endI s).p (endI s).e (fun V r b => by rw [h2]; exact rnodeI_any r s V b hs)).mono fun x w' h => ?_
   by_cases e0 : (endI s).e = 0
   ·
    rw [if_pos e0] at h hR
    by_cases e1 : (endI s).p = s.size ∧ rightN false (endI s).ks [] (endI s).cs true = true
    ·
     rw [if_pos e1] at h hR
     obtain ⟨g1, g2⟩ := g_inr hR
     rw [g1, g2]; exact h
    ·
     rw [if_neg e1] at h hR
     obtain ⟨g1, g2⟩ := g_inl hR
     rw [g1, g2]; exact h
   ·
    rw [if_neg e0] at h hR
    obtain ⟨g1, g2⟩ := g_inl hR
    rw [g1, g2]; exact h
  ·
   have hR : nodeR kind s = .inl 81 := by unfold nodeR; rw [if_neg h1, if_neg h2]
   obtain ⟨g1, g2⟩ := g_inl hR
   rw [g1, g2]
   exact nodeGet_kind kind s w h1 h2
end Go.Proofs.Ytpepgpjiddophaa
namespace Go.Proofs.Ytpepgpjiddophaa
open Go.RowKit Plain
set_option linter.unusedVariables false
theorem refStands_at {l : Bool} {a a' a'' : Option Addr} {c c' c'' n n' n'' : Nat} {ks vs : List ByteArray} {cs : List Int} {w : World} (hn : n = ks.length) (hn' : n' = vs.length) (hn'' : n'' = cs.length) (hK : IsS w a c ks) (hV : IsS w a' c' vs) (hC : IsI w a'' c'' cs) :
  Calls Try.prog 48 #[.agg #[.bool l, .slice a n c, .slice a' n' c', .slice a'' n'' c'']] w fun e w' => e = .returned (.bool (standsN l ks vs cs)) ∧ Below w.heap.size w w' := by
 subst hn hn' hn''; exact refStands_any l a a' a'' c c' c'' ks vs cs w hK hV hC
set_option maxHeartbeats 1000000 in
theorem refNodeRight_any (l : Bool) (a a' a'' : Option Addr) (c c' c'' n n' n'' : Nat) (ks vs : List ByteArray) (cs : List Int) (root : Bool) (w : World) (hn : n = ks.length) (hn' : n' = vs.length) (hn'' : n'' = cs.length) (hK : IsS w a c ks) (hV : IsS w a' c' vs) (hC : IsI w a'' c'' cs) :
  Calls Try.prog 36 #[.agg #[.bool l, .slice a n c, .slice a' n' c', .slice a'' n'' c''], .bool root] w fun e w' => e = .returned (.bool (rightN l ks vs cs root)) ∧ Below w.heap.size w w' := by
 have hB0 : Below w.heap.size w (w.alloc (.cells #[.bool l, .slice a n c, .slice a' n' c', .slice a'' n'' c''] 62)) := (Below.refl _ _).alloc (Nat.le_refl _) _
 have hX := box4_new w (.bool l) (.slice a n c) (.slice a' n' c') (.slice a'' n'' c'') 62 rfl
 have cS := refStands_at (l := l) hn hn' hn'' (hK.below hB0) (hV.below hB0) (hC.below hB0)
 have hm : n ≤ 9223372036854775807 := by rw [hn]; exact hK.size
 have HE : Hid (rightN l ks vs cs root = (standsN l ks vs cs && decide ((n : Int) ≤ 8) && (root || decide (4 ≤ (n : Int))))) := by
  show _ = _
  rw [hn]; unfold rightN
  congr 1
  ·
   congr 1
   rw [decide_eq_decide]; omega
  ·
   congr 1
   rw [decide_eq_decide]; omega
 clear hn hn' hn'' hK hV hC
 cases hs : standsN l ks vs cs with
 | true =>
  rw [hs] at cS HE
  by_cases h8 : (n : Int) ≤ 8
  ·
   cases root with
   | true =>
    go_enter Try.func36, Try.ntmps36
    go_wp2_with (go_at_call 48; refine cS.mono ?_; rintro e w1 ⟨rfl, hb⟩; obtain ⟨⟨q0, q1, q2, q3⟩, -⟩ := hX.below hb; have hB1 := Below.tr hB0 hb)
    go_ret
    exact ⟨ret_bool (by rw [HE.out]; simp [h8]), hB1⟩
   | false =>
    go_enter Try.func36, Try.ntmps36
    go_wp2_with (go_at_call 48; refine cS.mono ?_; rintro e w1 ⟨rfl, hb⟩; obtain ⟨⟨q0, q1, q2, q3⟩, -⟩ := hX.below hb; have hB1 := Below.tr hB0 hb)
    go_ret
    exact ⟨ret_bool (by rw [HE.out]; simp [h8]), hB1⟩
  ·
   go_enter Try.func36, Try.ntmps36
   go_wp2_with (go_at_call 48; refine cS.mono ?_; rintro e w1 ⟨rfl, hb⟩; obtain ⟨⟨q0, q1, q2, q3⟩, -⟩ := hX.below hb; have hB1 := Below.tr hB0 hb)
   go_ret
   exact ⟨ret_bool (by rw [HE.out, decide_eq_false (p := (n : Int) ≤ 8) (by omega)]; simp), hB1⟩
 | false =>
  rw [hs] at cS HE
  go_enter Try.func36, Try.ntmps36
  go_wp2_with (go_at_call 48; refine cS.mono ?_; rintro e w1 ⟨rfl, hb⟩; obtain ⟨⟨q0, q1, q2, q3⟩, -⟩ := hX.below hb; have hB1 := Below.tr hB0 hb)
  go_ret
  exact ⟨ret_bool (by rw [HE.out]; simp), hB1⟩
end Go.Proofs.Ytpepgpjiddophaa
namespace Go.Proofs.Ytpepgpjiddophaa
open Go.RowKit Plain Anylast
set_option linter.unusedVariables false
theorem leaf_err {s : ByteArray} {e : Int} {j c : Nat} (h0 : getE s 0 1 = 0) (hc : getR s 0 1 = c) (h : leafSt s j = .inl e) (hj : j ≤ c) : leafR s = .inl e := by
 obtain ⟨d, rfl⟩ : ∃ d, c = j + d := ⟨c - j, by omega⟩
 unfold leafR
 rw [if_pos h0, hc, Int.toNat_natCast, leafSt_stuck h d]
theorem leaf_end {s : ByteArray} {p : Int} {ks vs : List ByteArray} {c : Nat} (h0 : getE s 0 1 = 0) (hc : getR s 0 1 = c) (h : leafSt s c = .inr (p, ks, vs)) : leafR s = if p = s.size ∧ rightN true ks vs [] true = true then .inr (true, ks, vs, []) else .inl 4 := by
 unfold leafR
 rw [if_pos h0, hc, Int.toNat_natCast, h]
set_option maxRecDepth 20000 in
set_option maxHeartbeats 4000000 in
theorem refGetLeaf_any (s : ByteArray) (w : World) (hs : s.size ≤ maxLen) :
  Calls Try.prog 35 #[.int .i64 1, .string s] w fun x w' => Answers w x w' (gN 1 s).1 (gN 1 s).2.1 (gN 1 s).2.2.1 (gN 1 s).2.2.2 (gE 1 s) := by
 obtain ⟨Q, hQ⟩ : ∃ Q : Ending → World → Prop, Q = fun x w' => Answers w x w' (gN 1 s).1 (gN 1 s).2.1 (gN 1 s).2.2.1 (gN 1 s).2.2.2 (gE 1 s) := ⟨_, rfl⟩
 have hN : nodeR 1 s = leafR s := by unfold nodeR; rw [if_pos rfl]
 have HQ : Hid (∀ e, leafR s = .inl e → ∀ x w', Answers w x w' false [] [] [] e → Q x w') := fun e h x w' ha => by
  obtain ⟨g1, g2⟩ := g_inl (hN.trans h)
  rw [hQ, g1, g2]; exact ha
 have HQ2 : Hid (∀ y, leafR s = .inr y → ∀ x w', Answers w x w' y.1 y.2.1 y.2.2.1 y.2.2.2 0 → Q x w') := fun y h x w' ha => by
  obtain ⟨g1, g2⟩ := g_inr (hN.trans h)
  rw [hQ, g1, g2]; exact ha
 rw [← hQ]
 clear hQ hN
 obtain ⟨W, hW, b0, bn, hB0, hsz⟩ := node_two w 62 true (.slice none 0 0)
 have N0 : NodeAt W (w.heap.size + 1) (w.heap.size + 2) true (.slice none 0 0) (.slice none 0 0) (.slice none 0 0) [] [] [] := nodeAt_new bn (by omega)
 have hle : w.heap.size ≤ w.heap.size := Nat.le_refl _
 have cG := fun V => refGet_any s 0 1 V hs
 by_cases h0 : getE s 0 1 = 0
 ·
  obtain ⟨e1, e2, e3⟩ := rn_one h0
  obtain ⟨c, hc, hc2⟩ := rn_count s
  rw [e3] at hc
  have eT : getT s 0 1 = 1 := by
   have h' : getE s ((0 : Nat) : Int) ((1 : Nat) : Int) = 0 := h0
   exact (get_num h').2.1
  rw [hc, eT, h0] at cG
  have HE : Hid (∀ e j, leafSt s j = .inl e → j ≤ c → leafR s = .inl e) := fun e j h hj => leaf_err h0 hc h hj
  have HF : Hid (∀ p ks vs, leafSt s c = .inr (p, ks, vs) → leafR s = if p = s.size ∧ rightN true ks vs [] true = true then .inr (true, ks, vs, []) else .inl 4) := fun p ks vs h => leaf_end h0 hc h
  have HS : Hid (s.size ≤ maxLen) := hs
  have hm : s.size ≤ 9223372036854775807 := hs
  clear e1 e2 e3 hc eT h0 hs bn hsz
  go_enter Try.func35, Try.ntmps35
  go_wp2_with (go_at_call 44; rw [← hW]; refine (cG _).mono ?_; rintro y w1 ⟨rfl, rfl⟩)
  rw [← hW]
  clear hW cG
  go_loopw [8, 10] (fun v8 v10 wr => ∃ (j : Nat) (p : Int) (u1 u2 : Value) (xs ys : List ByteArray), j ≤ c ∧ v10 = .int .i64 j ∧ v8 = .int .i64 p ∧ leafSt s j = .inr (p, xs, ys) ∧ NodeAt wr (w.heap.size + 1) (w.heap.size + 2) true u1 u2 (.slice none 0 0) xs ys [] ∧ (∀ x ∈ xs, x.size ≤ s.size) ∧ (∀ x ∈ ys, x.size ≤ s.size) ∧ Box4 wr w.heap.size (.bool false) (.slice none 0 0) (.slice none 0 0) (.slice none 0 0) ∧ Below w.heap.size w wr) (fun _ v10 _ => c - (intOf v10).toNat)
  case atStart => exact ⟨0, 1, _, _, [], [], by omega, rfl, rfl, rfl, N0, fun x h => (by cases h), fun x h => (by cases h), b0, hB0⟩
  case round =>
   clear N0 b0 hB0
   obtain ⟨j, p, u1, u2, xs, ys, hj, rfl, rfl, hst, N, sx, sy, b0, HB⟩ := hrel
   obtain ⟨l1, l2⟩ := leafSt_length hst
   by_cases hlt : j < c
   ·
    have hlt' : (j : Int) < c := by omega
    have cC1 := fun V => refCut_any s p V HS.out
    obtain ⟨k1, hk1⟩ : ∃ x, x = cutS s p := ⟨_, rfl⟩
    obtain ⟨p1, hp1⟩ : ∃ x, x = cutT s p := ⟨_, rfl⟩
    obtain ⟨E1, hE1⟩ : ∃ x, x = cutE s p := ⟨_, rfl⟩
    rw [← hk1, ← hp1, ← hE1] at cC1
    obtain ⟨⟨r0, r1, r2, r3⟩, g0, g1, g2, g3⟩ := id b0
    have hst' : leafSt s (j + 1) = if E1 = 0 then (if cutE s p1 = 0 then .inr (cutT s p1, xs ++ [k1], ys ++ [cutS s p1]) else .inl (cutE s p1)) else .inl E1 := by
     rw [leafSt, hst, hk1, hp1, hE1]
    by_cases z1 : E1 = 0
    ·
     subst z1
     rw [if_pos rfl] at hst'
     have cC2 := fun V => refCut_any s p1 V HS.out
     obtain ⟨k2, hk2⟩ : ∃ x, x = cutS s p1 := ⟨_, rfl⟩
     obtain ⟨p2, hp2⟩ : ∃ x, x = cutT s p1 := ⟨_, rfl⟩
     obtain ⟨E2, hE2⟩ : ∃ x, x = cutE s p1 := ⟨_, rfl⟩
     rw [← hk2, ← hp2, ← hE2] at cC2 hst'
     have sk1 : k1.size ≤ s.size := by rw [hk1]; exact cutS_size s p
     have sk2 : k2.size ≤ s.size := by rw [hk2]; exact cutS_size s p1
     obtain ⟨ga, cap, V3, hrun1, b3, N4, T4⟩ := N.push1 k1 (by omega)
     obtain ⟨V4, hV4⟩ : ∃ V, V = V3.setCell ⟨w.heap.size + 1, 1, none⟩ (.slice (some ⟨ga, 0, none⟩) (xs.length + 1) cap) := ⟨_, rfl⟩
     rw [← hV4] at N4 T4
     have HB4 : Below w.heap.size w V4 := Below.turns HB T4 (fun k hk => by rcases hk with h | h <;> omega)
     have b04 := b0.turns T4 (by rintro (h | h) <;> omega)
     obtain ⟨⟨q0, q1, q2, q3⟩, -⟩ := N.box
     have Q1 := fun o => cell_alloc q1 o
     obtain ⟨⟨q03, q13, q23, q33⟩, f0, f1, f2, f3⟩ := id b3
     have HST : Hid (leafSt s (j + 1) = if E2 = 0 then .inr (p2, xs ++ [k1], ys ++ [k2]) else .inl E2) := hst'
     have SX : Hid (∀ x ∈ xs ++ [k1], x.size ≤ s.size) := fun x hx => by
      rcases List.mem_append.1 hx with h | h
      ·
       exact sx x h
      ·
       obtain rfl : x = k1 := by simpa using h
       exact sk1
     have SY : Hid (∀ x ∈ ys ++ [k2], x.size ≤ s.size) := fun x hx => by
      rcases List.mem_append.1 hx with h | h
      ·
       exact sy x h
      ·
       obtain rfl : x = k2 := by simpa using h
       exact sk2
     obtain ⟨⟨s0, s1, s2, s3⟩, -⟩ := N4.box
     have S2 := fun o => cell_alloc s2 o
     by_cases z2 : E2 = 0
     ·
      subst z2
      obtain ⟨gb, cap2, U3, hrun2, b5, N8, T8⟩ := N4.push2 k2 (by omega)
      obtain ⟨U4, hU4⟩ : ∃ V, V = U3.setCell ⟨w.heap.size + 1, 2, none⟩ (.slice (some ⟨gb, 0, none⟩) (ys.length + 1) cap2) := ⟨_, rfl⟩
      rw [← hU4] at N8 T8
      have NH : Hid (NodeAt U4 (w.heap.size + 1) (w.heap.size + 2) true (.slice (some ⟨ga, 0, none⟩) (xs.length + 1) cap) (.slice (some ⟨gb, 0, none⟩) (ys.length + 1) cap2) (.slice none 0 0) (xs ++ [k1]) (ys ++ [k2]) []) := N8
      have BH : Hid (Box4 U4 w.heap.size (.bool false) (.slice none 0 0) (.slice none 0 0) (.slice none 0 0) ∧ Below w.heap.size w U4) := ⟨b04.turns T8 (by rintro (h | h) <;> omega), Below.turns HB4 T8 (fun k hk => by rcases hk with h | h <;> omega)⟩
      obtain ⟨⟨q05, q15, q25, q35⟩, h0, h1, h2, h3⟩ := id b5
      have HV4 : Hid (V4 = V3.setCell ⟨w.heap.size + 1, 1, none⟩ (.slice (some ⟨ga, 0, none⟩) (xs.length + 1) cap)) := hV4
      have HU4 : Hid (U4 = U3.setCell ⟨w.heap.size + 1, 2, none⟩ (.slice (some ⟨gb, 0, none⟩) (ys.length + 1) cap2)) := hU4
      have t1 : True := trivial
      clear hk1 hp1 hE1 hk2 hp2 hE2 hst hst' l1 l2 hV4 hU4 N N4 N8 T4 T8 b3 b5 sx sy sk1 sk2 b0 b04 HB4
      go_wp2_with (first
       | (go_at_call 47; have _t := t1; refine (cC1 _).mono ?_; rintro y w1 ⟨rfl, rfl⟩)
       | (at_builtin; have _t := t1; refine Lib.wpList_append_run _ rfl _ _ _ _ rfl _ _ rfl rfl _ _ hrun1 ?_; clear t1 _t)
       | (go_at_call 47; rw [← HV4.out]; refine (cC2 _).mono ?_; rintro y w1 ⟨rfl, rfl⟩)
       | (at_builtin; refine Lib.wpList_append_run _ rfl _ _ _ _ rfl _ _ rfl rfl _ _ hrun2 ?_))
      go_roundw
      case rel => exact ⟨j + 1, p2, .slice (some ⟨ga, 0, none⟩) (xs.length + 1) cap, .slice (some ⟨gb, 0, none⟩) (ys.length + 1) cap2, xs ++ [k1], ys ++ [k2], by omega, by go_num, rfl, by rw [HST.out]; simp, by rw [← HU4.out]; exact NH.out, SX.out, SY.out, by rw [← HU4.out]; exact BH.out.1, by rw [← HU4.out]; exact BH.out.2⟩
      case measure => simp [intOf]; omega
     ·
      have z2' : (E2 != 0) = true := by simpa using z2
      have HEE : Hid (leafR s = .inl E2) := HE.out E2 (j + 1) (by rw [HST.out, if_neg z2]) (by omega)
      have HV4 : Hid (V4 = V3.setCell ⟨w.heap.size + 1, 1, none⟩ (.slice (some ⟨ga, 0, none⟩) (xs.length + 1) cap)) := hV4
      have t1 : True := trivial
      clear r0 r1 r2 r3 g0 g1 g2 g3
      obtain ⟨⟨r0, r1, r2, r3⟩, g0, g1, g2, g3⟩ := id b04
      clear hk1 hp1 hE1 hk2 hp2 hE2 hst hst' l1 l2 hV4 N N4 T4 b3 sx sy sk1 sk2 b0 b04 HB z2
      go_wp2_with (first
       | (go_at_call 47; have _t := t1; refine (cC1 _).mono ?_; rintro y w1 ⟨rfl, rfl⟩)
       | (at_builtin; have _t := t1; refine Lib.wpList_append_run _ rfl _ _ _ _ rfl _ _ rfl rfl _ _ hrun1 ?_; clear t1 _t)
       | (go_at_call 47; rw [← HV4.out]; refine (cC2 _).mono ?_; rintro y w1 ⟨rfl, rfl⟩))
      refine bodyPost_ret (v := .tuple #[.agg #[.bool false, .slice none 0 0, .slice none 0 0, .slice none 0 0], .int .i64 E2]) (by simp [results, Try.results35, go_sem, r0, r1, r2, r3]) rfl (HQ.out _ HEE.out _ _ (answers_none (below_put4 HB4 hle _ _ _ _)))
    ·
     have z1' : (E1 != 0) = true := by simpa using z1
     have HEE : Hid (leafR s = .inl E1) := HE.out E1 (j + 1) (by rw [hst', if_neg z1]) (by omega)
     clear hk1 hp1 hE1 hst hst' l1 l2 N sx sy b0 z1
     go_wp2_with (go_at_call 47; refine (cC1 _).mono ?_; rintro y w1 ⟨rfl, rfl⟩)
     refine bodyPost_ret (v := .tuple #[.agg #[.bool false, .slice none 0 0, .slice none 0 0, .slice none 0 0], .int .i64 E1]) (by simp [results, Try.results35, go_sem, r0, r1, r2, r3]) rfl (HQ.out _ HEE.out _ _ (answers_none (below_put4 HB hle _ _ _ _)))
   ·
    obtain rfl : j = c := by omega
    have hfin : Hid (leafR s = if p = s.size ∧ rightN true xs ys [] true = true then .inr (true, xs, ys, []) else .inl 4) := HF.out p xs ys hst
    have X1 : Hid (∀ x ∈ xs, x.size ≤ maxLen) := fun x hx => Nat.le_trans (sx x hx) HS.out
    have X2 : Hid (∀ x ∈ ys, x.size ≤ maxLen) := fun x hx => Nat.le_trans (sy x hx) HS.out
    obtain ⟨a, d, a', d', a'', d'', rfl, rfl, e3, i1, i2, i3, j1, j2, j3⟩ := N.rows X1.out X2.out
    have NH : Hid (NodeAt wr (w.heap.size + 1) (w.heap.size + 2) true (.slice a xs.length d) (.slice a' ys.length d') (.slice none 0 0) xs ys []) := N
    obtain ⟨⟨q0, q1, q2, q3⟩, -⟩ := N.box
    have cR : Calls Try.prog 36 #[.agg #[.bool true, .slice a xs.length d, .slice a' ys.length d', .slice none 0 0], .bool true] wr fun e w' => e = .returned (.bool (rightN true xs ys [] true)) ∧ Below wr.heap.size wr w' := refNodeRight_any true a a' none d d' 0 _ _ 0 xs ys [] true wr rfl rfl rfl i1 i2 (isI_nil _)
    clear l1 l2 hst sx sy e3 i1 i2 i3
    by_cases hP : p = s.size
    ·
     subst hP
     cases hr : rightN true xs ys [] true with
     | true =>
      rw [hr] at cR hfin
      replace hfin : Hid (leafR s = .inr (true, xs, ys, [])) := by show _ = _; rw [hfin.out, if_pos ⟨rfl, rfl⟩]
      clear hr
      have J1 : Hid (From (w.heap.size + 2) a) := j1
      have J2 : Hid (From (w.heap.size + 2) a') := j2
      clear j1 j2 j3 N
      go_wp2_with (go_at_call 36; refine cR.mono ?_; rintro y w1 ⟨rfl, hb⟩; have NH1 : Hid (NodeAt w1 (w.heap.size + 1) (w.heap.size + 2) true (.slice a xs.length d) (.slice a' ys.length d') (.slice none 0 0) xs ys []) := NH.out.below hb; replace b0 := b0.below hb; replace HB := Below.tr HB hb; obtain ⟨⟨r0, r1, r2, r3⟩, g0, g1, g2, g3⟩ := id b0; clear q0 q1 q2 q3; obtain ⟨⟨q0, q1, q2, q3⟩, -⟩ := NH1.out.box; clear hb)
      have N4 := (((NH1.out.other (k := w.heap.size) (by omega) (by omega) 0 (.bool true)).other (k := w.heap.size) (by omega) (by omega) 1 (.slice a xs.length d)).other (k := w.heap.size) (by omega) (by omega) 2 (.slice a' ys.length d')).other (k := w.heap.size) (by omega) (by omega) 3 (.slice none 0 0)
      obtain ⟨a1, d1, a1', d1', a1'', d1'', e1, e2, e3, i1, i2, i3, -, -, -⟩ := N4.rows X1.out X2.out
      cases e1
      cases e2
      exact bodyPost_ret (v := .tuple #[.agg #[.bool true, .slice a xs.length d, .slice a' ys.length d', .slice none 0 0], .int .i64 0]) (by simp [results, Try.results35, go_sem, r0, r1, r2, r3]) rfl (HQ2.out _ hfin.out _ _ ⟨_, a, d, _, a', d', 0, none, 0, rfl, rfl, rfl, rfl, i1, i2, isI_nil _, J1.out.mono (by omega), J2.out.mono (by omega), from_nil _, below_put4 HB hle _ _ _ _⟩)
     | false =>
      rw [hr] at cR hfin
      replace hfin : Hid (leafR s = .inl 4) := by show _ = _; rw [hfin.out, if_neg (by simp)]
      clear hr j1 j2 j3 N
      go_wp2_with (go_at_call 36; refine cR.mono ?_; rintro y w1 ⟨rfl, hb⟩; replace b0 := b0.below hb; replace HB := Below.tr HB hb; obtain ⟨⟨r0, r1, r2, r3⟩, g0, g1, g2, g3⟩ := id b0; clear q0 q1 q2 q3 hb)
      refine bodyPost_ret (v := .tuple #[.agg #[.bool false, .slice none 0 0, .slice none 0 0, .slice none 0 0], .int .i64 4]) (by simp [results, Try.results35, go_sem, r0, r1, r2, r3]) rfl (HQ.out _ hfin.out _ _ (answers_none (below_put4 HB hle _ _ _ _)))
    ·
     have hP' : (p != (s.size : Int)) = true := by simpa using hP
     replace hfin : Hid (leafR s = .inl 4) := by show _ = _; rw [hfin.out, if_neg (fun h => hP h.1)]
     obtain ⟨⟨r0, r1, r2, r3⟩, g0, g1, g2, g3⟩ := id b0
     clear j1 j2 j3 N cR hP
     go_wp2
     refine bodyPost_ret (v := .tuple #[.agg #[.bool false, .slice none 0 0, .slice none 0 0, .slice none 0 0], .int .i64 4]) (by simp [results, Try.results35, go_sem, r0, r1, r2, r3]) rfl (HQ.out _ hfin.out _ _ (answers_none (below_put4 HB hle _ _ _ _)))
 ·
  have hb' : (getE s 0 1 != 0) = true := by simpa using h0
  have eR : getR s 0 1 = 0 := by unfold getR; rw [if_neg h0]
  have HEE : Hid (leafR s = .inl (getE s 0 1)) := by show _ = _; unfold leafR; rw [if_neg h0]
  rw [eR] at cG
  generalize getE s 0 1 = E1 at *
  generalize getT s 0 1 = T1 at *
  obtain ⟨⟨r0, r1, r2, r3⟩, g0, g1, g2, g3⟩ := id b0
  clear eR h0 N0 bn hsz
  go_enter Try.func35, Try.ntmps35
  go_wp2_with (go_at_call 44; rw [← hW]; refine (cG _).mono ?_; rintro y w1 ⟨rfl, rfl⟩)
  rw [← hW]
  clear hW cG
  go_loopw [10] (fun v wr => v = .int .i64 0 ∧ wr = W) (fun _ _ => 0)
  case atStart => exact ⟨rfl, rfl⟩
  case round =>
   obtain ⟨rfl, hwr⟩ := hrel
   subst hwr
   go_wp2
   refine bodyPost_ret (v := .tuple #[.agg #[.bool false, .slice none 0 0, .slice none 0 0, .slice none 0 0], .int .i64 E1]) (by simp [results, Try.results35, go_sem, r0, r1, r2, r3]) rfl (HQ.out _ HEE.out _ _ (answers_none (below_put4 hB0 hle _ _ _ _)))
end Go.Proofs.Ytpepgpjiddophaa
