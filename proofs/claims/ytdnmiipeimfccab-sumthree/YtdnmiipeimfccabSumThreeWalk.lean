/-
  The walk of the law SumThree: it returns true at all arguments.
-/
import Derived.Test.YtdnmiipeimfccabSumOf
import Derived.Test.YtdnmiipeimfccabAnyorder
import Derived.Laws.IdiomStrings
namespace Go.Proofs.Ytdnmiipeimfccab
open Go.RowKit Plain Anyorder
set_option linter.unusedVariables false

theorem Try.info5 : (Try.prog.info? 5).map (fun i => (i.zero, i.size, i.bytes)) = some (some (.int .u8 0), 1, 1) := by kernel_rfl

theorem xor3_length {l m n : List UInt8} (h1 : l.length = m.length) (h2 : m.length = n.length) : (xor3 l m n).length = l.length := by
  induction l generalizing m n with
  | nil => cases m <;> cases n <;> rfl
  | cons a l ih => cases m with
    | nil => simp at h1
    | cons b m => cases n with
      | nil => simp at h2
      | cons c n =>
        show (xor3 l m n).length + 1 = l.length + 1
        rw [ih (by simpa using h1) (by simpa using h2)]

theorem xor3_get {l m n : List UInt8} (i : Nat) {x y z : UInt8} (hx : l[i]? = some x) (hy : m[i]? = some y) (hz : n[i]? = some z) : (xor3 l m n)[i]? = some (x ^^^ y ^^^ z) := by
  induction l generalizing m n i with
  | nil => simp at hx
  | cons a l ih => cases m with
    | nil => simp at hy
    | cons b m => cases n with
      | nil => simp at hz
      | cons c n => cases i with
        | zero =>
          simp at hx hy hz
          subst hx; subst hy; subst hz
          rfl
        | succ i => exact ih i hx hy hz

/-- A row of which the first i bytes are written. -/
def rowF (X : List UInt8) (i : Nat) : Nat → Value := fun j => if j < i then cellOf (X[j]?.getD 0) else .int .u8 0

theorem rowF_succ (X : List UInt8) (i : Nat) (x : UInt8) (hx : X[i]? = some x) (j : Nat) : (if j = i then cellOf x else rowF X i j) = rowF X (i + 1) j := by
  unfold rowF
  by_cases h : j = i
  · subst h
    rw [if_pos rfl, if_pos (by omega), hx]; rfl
  · rw [if_neg h]
    by_cases h2 : j < i
    · rw [if_pos h2, if_pos (by omega)]
    · rw [if_neg h2, if_neg (by omega)]

theorem conv_rowF (w : World) (b cap : Nat) (X : List UInt8) (n : Nat) (hn : X.length = n) (h : w.rowIs b 5 n (rowF X n)) :
    (convert 22 9 (.slice (some ⟨b, 0, none⟩) n cap)).run Try.prog w = .ok (.string ⟨X.toArray⟩) w := by
  subst hn
  refine run_convert_bytes_back (P := Try.prog) _ 22 9 5 ⟨b, 0, none⟩ cap X Try.underlying22 Try.underlying5 Try.underlying9 fun j hj => ?_
  have e : (⟨b, 0, none⟩ : Addr).add j = ⟨b, j, none⟩ := by
    by_cases h : j = 0 <;> simp [Addr.add, h]
  rw [e, h.cell hj]
  unfold rowF
  rw [if_pos hj, List.getElem?_eq_getElem hj]; rfl

theorem xor_three (x y z : UInt8) : (Value.int .u8 (bits .xor .u8 (bits .xor .u8 (x.toNat : Int) (y.toNat : Int)) (z.toNat : Int))) = cellOf (x ^^^ y ^^^ z) := by
  unfold cellOf
  have h := (x ^^^ y).toNat_lt
  rw [u8_xor_nat _ _ x.toNat_lt y.toNat_lt, ← UInt8.toNat_xor, u8_xor_nat _ _ h z.toNat_lt, ← UInt8.toNat_xor]

theorem of_one_from (w W : World) (hB : Below w.heap.size w W) (s : ByteArray) (hs : s.size ≤ maxLen) :
    Calls Try.prog 5 #[.slice (some ⟨W.heap.size, 0, none⟩) 1 1] (W.alloc (.cells #[.string s] 9)) fun e w' => e = .returned (.int .u32 (ofS s)) ∧ Below w.heap.size w w' :=
  (of_one s W hs).mono fun e w' ⟨he, hb'⟩ => ⟨he, Below.tr hB hb'⟩

theorem cell_at {W : World} {s : ByteArray} {t : TypeId} {bk : Nat} (h : bk = W.heap.size) : (W.alloc (.cells #[.string s] t)).cell? ⟨bk, 0, none⟩ = some (.string s) := by
  subst h
  rw [World.cell?_alloc_at _ _ _ _ rfl]
  rfl

theorem cell_up {W : World} {a : Addr} {v : Value} {o : Obj} (h : W.cell? a = some v) : (W.alloc o).cell? a = some v := by
  rw [World.cell?_alloc_lt _ _ _ (World.block_lt_of_cell? W a h)]
  exact h

theorem of_cell (bk : Nat) (s : ByteArray) (W : World) (hc : W.cell? ⟨bk, 0, none⟩ = some (.string s)) (hs : s.size ≤ maxLen) :
    Calls Try.prog 5 #[.slice (some ⟨bk, 0, none⟩) 1 1] W fun e w' => e = .returned (.int .u32 (ofS s)) ∧ W = w' := by
  have h := of_row bk 0 1 [s] W ?_ (by simp) (by decide) (by simpa using hs)
  · rw [cat_one] at h
    exact h
  intro j x hj
  match j, hj with
  | 0, hj => simp at hj; subst hj; exact hc

/-- A row of one text that lies in memory. -/
def IsB (s : ByteArray) (v : Value) (w : World) : Prop := ∃ bk, v = .slice (some ⟨bk, 0, none⟩) 1 1 ∧ w.cell? ⟨bk, 0, none⟩ = some (.string s)

theorem IsB.mono {s : ByteArray} {v : Value} {w w' : World} (h : IsB s v w) (hb : Below w.heap.size w w') : IsB s v w' := by
  obtain ⟨bk, rfl, hc⟩ := h
  refine ⟨bk, rfl, ?_⟩
  rw [hb.cell (p := ⟨bk, 0, none⟩) (World.block_lt_of_cell? w _ hc)]
  exact hc

/-- What each slot of the law's last line holds. -/
def threeV (X : List UInt8) (a b c : ByteArray) (B n : Nat) (i : Nat) (v : Value) (w : World) : Prop :=
  match i with
  | 0 => v = .bool true
  | 1 => v = .bool true
  | 2 => v = .slice (some ⟨B, 0, none⟩) n n
  | 3 => v = .string ⟨X.toArray⟩
  | 4 => IsB ⟨X.toArray⟩ v w
  | 5 => v = .int .u32 (ofS ⟨X.toArray⟩ : Nat)
  | 6 => v = .string a
  | 7 => v = .int .i64 n
  | 8 => v = .string (a.extract 0 n)
  | 9 => IsB (a.extract 0 n) v w
  | 10 => v = .int .u32 (ofS (a.extract 0 n) : Nat)
  | 11 => v = .string b
  | 12 => v = .int .i64 n
  | 13 => v = .string (b.extract 0 n)
  | 14 => IsB (b.extract 0 n) v w
  | 15 => v = .int .u32 (ofS (b.extract 0 n) : Nat)
  | 16 => v = .int .u32 (bits .xor .u32 (ofS (a.extract 0 n) : Nat) (ofS (b.extract 0 n) : Nat))
  | 17 => v = .string c
  | 18 => v = .int .i64 n
  | 19 => v = .string (c.extract 0 n)
  | 20 => IsB (c.extract 0 n) v w
  | 21 => v = .int .u32 (ofS (c.extract 0 n) : Nat)
  | 22 => v = .int .u32 (bits .xor .u32 (bits .xor .u32 (ofS (a.extract 0 n) : Nat) (ofS (b.extract 0 n) : Nat)) (ofS (c.extract 0 n) : Nat))
  | 23 => v = .bool true
  | 24 => v = .bool true
  | 25 => v = .bool true
  | _ => True

theorem three_sum (a b c : ByteArray) (n : Nat) (h1 : n ≤ a.size) (h2 : n ≤ b.size) (h3 : n ≤ c.size) (X : List UInt8) (hX : xor3 (a.data.toList.take n) (b.data.toList.take n) (c.data.toList.take n) = X) :
    bits .xor .u32 (bits .xor .u32 ((ofS (a.extract 0 n) : Nat) : Int) ((ofS (b.extract 0 n) : Nat) : Int)) ((ofS (c.extract 0 n) : Nat) : Int) = ((ofS ⟨X.toArray⟩ : Nat) : Int) := by
  have ex : ∀ s : ByteArray, (s.extract 0 n).data.toList = s.data.toList.take n := by
    intro s
    simp only [ByteArray.data_extract, Array.toList_extract, List.extract_eq_take_drop]
    simp
  rw [u32_xor_nat _ _ (ofS_lt _) (ofS_lt _), u32_xor_nat _ _ (Nat.xor_lt_two_pow (n := 32) (ofS_lt _) (ofS_lt _)) (ofS_lt _)]
  have la : (a.data.toList.take n).length = n := by rw [List.length_take]; exact Nat.min_eq_left h1
  have lb : (b.data.toList.take n).length = n := by rw [List.length_take]; exact Nat.min_eq_left h2
  have lc : (c.data.toList.take n).length = n := by rw [List.length_take]; exact Nat.min_eq_left h3
  have h := sumOf_three (l := a.data.toList.take n) (m := b.data.toList.take n) (n := c.data.toList.take n) (by rw [la, lb]) (by rw [lb, lc])
  unfold ofS
  rw [ex, ex, ex, ← h, hX]

set_option maxHeartbeats 40000000 in
theorem sumThree_walk (a b c : ByteArray) (w : World) (ha : a.size ≤ maxLen) (hb : b.size ≤ maxLen) (hc : c.size ≤ maxLen) :
    Calls Try.prog 3 #[.string a, .string b, .string c] w fun e w' => e = .returned (.bool true) ∧ Below w.heap.size w w' := by
  have hB : Below w.heap.size w w := Below.refl _ _
  obtain ⟨n, hn⟩ : ∃ n, min (min (min a.size b.size) c.size) 5000 = n := ⟨_, rfl⟩
  have n1 : n ≤ a.size := by omega
  have n2 : n ≤ b.size := by omega
  have n3 : n ≤ c.size := by omega
  have n5 : n ≤ 5000 := by omega
  have hmin : ∀ W : World, (Builtin.min_ #[3, 3, 3, 3] 3 #[.int .i64 a.size, .int .i64 b.size, .int .i64 c.size, .int .i64 5000]).run Try.prog W = .ok (.int .i64 n) W := by
    intro W
    simp [Builtin.min_, Builtin.min2]
    split <;> split <;> split <;> omega
  have hmk := fun W => run_make_row' (P := Try.prog) 22 5 (.int .u8 0) 1 Try.underlying22 Try.info5 rfl .i64 .i64 n (by omega) (by omega) W
  obtain ⟨X, hX⟩ : ∃ X, xor3 (a.data.toList.take n) (b.data.toList.take n) (c.data.toList.take n) = X := ⟨_, rfl⟩
  have HS : Hid (bits .xor .u32 (bits .xor .u32 ((ofS (a.extract 0 n) : Nat) : Int) ((ofS (b.extract 0 n) : Nat) : Int)) ((ofS (c.extract 0 n) : Nat) : Int) = ((ofS ⟨X.toArray⟩ : Nat) : Int)) := three_sum a b c n n1 n2 n3 X hX
  have hXl : X.length = n := by
    rw [← hX, xor3_length] <;> simp [List.length_take] <;> omega
  have hXg : Hid (∀ i (h : i < n), X[i]? = some (a[i] ^^^ b[i] ^^^ c[i])) := by
    intro i h
    have hh : ∀ Y, xor3 (a.data.toList.take n) (b.data.toList.take n) (c.data.toList.take n) = Y → Y[i]? = some (a[i] ^^^ b[i] ^^^ c[i]) := by
      intro Y hY
      rw [← hY]
      refine xor3_get i ?_ ?_ ?_
      · rw [List.getElem?_take_of_lt h]; exact getElem_list a i (by omega)
      · rw [List.getElem?_take_of_lt h]; exact getElem_list b i (by omega)
      · rw [List.getElem?_take_of_lt h]; exact getElem_list c i (by omega)
    exact hh X hX
  have HA : Hid ((a.extract 0 n).size ≤ maxLen) := by show (a.extract 0 n).size ≤ maxLen; rw [ByteArray.size_extract]; unfold maxLen; omega
  have HBB : Hid ((b.extract 0 n).size ≤ maxLen) := by show (b.extract 0 n).size ≤ maxLen; rw [ByteArray.size_extract]; unfold maxLen; omega
  have HC : Hid ((c.extract 0 n).size ≤ maxLen) := by show (c.extract 0 n).size ≤ maxLen; rw [ByteArray.size_extract]; unfold maxLen; omega
  have HX : Hid ((⟨X.toArray⟩ : ByteArray).size ≤ maxLen) := by show X.length ≤ maxLen; unfold maxLen; omega
  unfold maxLen at ha hb hc
  clear hX hn
  go_enter Try.func3, Try.ntmps3
  go_wp2
  go_loopw [21] (fun v wr => ∃ i : Nat, i ≤ n ∧ v = .int .i64 i ∧ wr.rowIs w.heap.size 5 n (rowF X i) ∧ Below w.heap.size w wr) (fun v _ => n - (intOf v).toNat)
  case atStart =>
    refine ⟨0, by omega, rfl, ?_, (Below.refl _ _).alloc (Nat.le_refl _) _⟩
    exact (World.rowIs_made w (.int .u8 0) n 5).congr fun j hj => rfl
  case round =>
    obtain ⟨i, hi, rfl, hrow, hbel⟩ := hrel
    have HR : Hid (wr.rowIs w.heap.size 5 n (rowF X i)) := hrow
    clear hrow
    by_cases hlt : i < n
    · have hcell := HR.out.cell hlt
      have hfz := HR.out.frozen i
      have i1 : i < a.size := by omega
      have i2 : i < b.size := by omega
      have i3 : i < c.size := by omega
      have hg := hXg.out i hlt
      have HG : Hid (X[i]? = some (a[i] ^^^ b[i] ^^^ c[i])) := hg
      clear hg
      have hf0 : rowF X i i = .int .u8 0 := by unfold rowF; rw [if_neg (by omega)]
      rw [hf0] at hcell
      go_wp2
      go_region
      go_wp2
      go_roundw
      case rel =>
        refine ⟨i + 1, by omega, by go_num, ?_, (hbel.setCell (Nat.le_refl _) _).drew⟩
        rw [xor_three]
        exact ((HR.out.set i _).congr fun j hj => rowF_succ X i _ HG.out j).drew
      case measure => simp [intOf]; omega
    · obtain rfl : n = i := by omega
      have hcv : ∀ W : World, W.rowIs w.heap.size 5 n (rowF X n) → (convert 22 9 (.slice (some ⟨w.heap.size, 0, none⟩) n n)).run Try.prog W = .ok (.string ⟨X.toArray⟩) W := fun W h => conv_rowF W w.heap.size n X n hXl h
      have b1 : (0 : Int) ≤ (n : Int) := by omega
      have b2 : (n : Int) ≤ a.size := by omega
      have b3 : (n : Int) ≤ b.size := by omega
      have b4 : (n : Int) ≤ c.size := by omega
      clear hmin hmk hXg
      go_wp2
      refine region_inv (by kernel_rfl) (threeV X a b c w.heap.size n) (fun W => W.rowIs w.heap.size 5 n (rowF X n) ∧ Below w.heap.size w W) (fun W W' => Below W.heap.size W W') (by kernel_rfl) ?mono ⟨HR.out.drew, hbel.drew⟩ ?step ?done
      case mono =>
        intro i v W W' hR hV
        unfold threeV at hV ⊢
        split at hV <;> first | exact hV | exact IsB.mono hV hR
      case done =>
        intro a' W hS hdf hsz hsame hval
        obtain ⟨_, h6, rfl⟩ := hval 25 _ 6 rfl rfl
        replace hdf : a'.defers = [] := hdf
        clear hval hsame hsz
        go_wp2
        refine bodyPost_ret (results_tmp rfl _ _ _) hdf ⟨?_, hS.2⟩
        simp [h6]
      case step =>
      intro i o ho a' W hS hdf hsz hdep hsame
      match i, ho with
      | 0, ho =>
        cases ho
        exact op_call rfl (wanted_free rfl) (by clear hdep hsame hsz hdf; go_simp) ((alive_any W).mono fun e w' ⟨he, hb⟩ => ⟨_, he, rfl, ⟨hS.1.of_block (hb.block _ hS.1.lt), Below.tr hS.2 hb⟩, hb⟩)
      | 1, ho =>
        cases ho
        obtain ⟨_, h39, rfl⟩ := hdep 0 _ 39 rfl rfl rfl
        exact op_value rfl (wanted_free rfl) (by clear hdep hsame hsz hdf; go_simp) rfl hS (Below.refl _ _)
      | 2, ho =>
        cases ho
        obtain ⟨_, hg, rfl⟩ := hdep 1 _ 40 rfl rfl rfl
        have h8 := hsame 8 rfl
        exact op_value rfl (wanted_by 1 true 40 rfl rfl hg) (by clear hdep hsame hsz hdf; go_simp) rfl hS (Below.refl _ _)
      | 3, ho =>
        cases ho
        obtain ⟨_, hg, rfl⟩ := hdep 1 _ 40 rfl rfl rfl
        obtain ⟨_, h41, rfl⟩ := hdep 2 _ 41 rfl rfl rfl
        exact op_value rfl (wanted_by 1 true 40 rfl rfl hg) (by clear hdep hsame hsz hdf; go_simp) rfl hS (Below.refl _ _)
      | 4, ho =>
        cases ho
        obtain ⟨_, hg, rfl⟩ := hdep 1 _ 40 rfl rfl rfl
        obtain ⟨_, h42, rfl⟩ := hdep 3 _ 42 rfl rfl rfl
        exact op_value (v := .slice (some ⟨W.heap.size, 0, none⟩) 1 1) (w' := W.alloc (.cells #[.string ⟨X.toArray⟩] 9)) rfl (wanted_by 1 true 40 rfl rfl hg) (by clear hdep hsame hsz hdf; go_simp) ⟨_, rfl, cell_at rfl⟩ ⟨hS.1.alloc _, hS.2.alloc hS.2.size _⟩ ((Below.refl _ _).alloc (Nat.le_refl _) _)
      | 5, ho =>
        cases ho
        obtain ⟨_, hg, rfl⟩ := hdep 1 _ 40 rfl rfl rfl
        obtain ⟨_, h43, bk, rfl, hbk⟩ := hdep 4 _ 43 rfl rfl rfl
        exact op_call rfl (wanted_by 1 true 40 rfl rfl hg) (by clear hdep hsame hsz hdf; go_simp) ((of_cell bk _ W hbk HX.out).mono fun e w' ⟨he, hw⟩ => ⟨_, he, rfl, hw ▸ hS, hw ▸ Below.refl _ _⟩)
      | 6, ho =>
        cases ho
        obtain ⟨_, hg, rfl⟩ := hdep 1 _ 40 rfl rfl rfl
        have h0 := hsame 0 rfl
        exact op_value rfl (wanted_by 1 true 40 rfl rfl hg) (by clear hdep hsame hsz hdf; go_simp) rfl hS (Below.refl _ _)
      | 7, ho =>
        cases ho
        obtain ⟨_, hg, rfl⟩ := hdep 1 _ 40 rfl rfl rfl
        have h7 := hsame 7 rfl
        exact op_value rfl (wanted_by 1 true 40 rfl rfl hg) (by clear hdep hsame hsz hdf; go_simp) rfl hS (Below.refl _ _)
      | 8, ho =>
        cases ho
        obtain ⟨_, hg, rfl⟩ := hdep 1 _ 40 rfl rfl rfl
        obtain ⟨_, h45, rfl⟩ := hdep 6 _ 45 rfl rfl rfl
        obtain ⟨_, h46, rfl⟩ := hdep 7 _ 46 rfl rfl rfl
        exact op_value rfl (wanted_by 1 true 40 rfl rfl hg) (by clear hdep hsame hsz hdf; go_simp) rfl hS (Below.refl _ _)
      | 9, ho =>
        cases ho
        obtain ⟨_, hg, rfl⟩ := hdep 1 _ 40 rfl rfl rfl
        obtain ⟨_, h47, rfl⟩ := hdep 8 _ 47 rfl rfl rfl
        exact op_value (v := .slice (some ⟨W.heap.size, 0, none⟩) 1 1) (w' := W.alloc (.cells #[.string (a.extract 0 n)] 9)) rfl (wanted_by 1 true 40 rfl rfl hg) (by clear hdep hsame hsz hdf; go_simp) ⟨_, rfl, cell_at rfl⟩ ⟨hS.1.alloc _, hS.2.alloc hS.2.size _⟩ ((Below.refl _ _).alloc (Nat.le_refl _) _)
      | 10, ho =>
        cases ho
        obtain ⟨_, hg, rfl⟩ := hdep 1 _ 40 rfl rfl rfl
        obtain ⟨_, h48, bk, rfl, hbk⟩ := hdep 9 _ 48 rfl rfl rfl
        exact op_call rfl (wanted_by 1 true 40 rfl rfl hg) (by clear hdep hsame hsz hdf; go_simp) ((of_cell bk _ W hbk HA.out).mono fun e w' ⟨he, hw⟩ => ⟨_, he, rfl, hw ▸ hS, hw ▸ Below.refl _ _⟩)
      | 11, ho =>
        cases ho
        obtain ⟨_, hg, rfl⟩ := hdep 1 _ 40 rfl rfl rfl
        have h1 := hsame 1 rfl
        exact op_value rfl (wanted_by 1 true 40 rfl rfl hg) (by clear hdep hsame hsz hdf; go_simp) rfl hS (Below.refl _ _)
      | 12, ho =>
        cases ho
        obtain ⟨_, hg, rfl⟩ := hdep 1 _ 40 rfl rfl rfl
        have h7 := hsame 7 rfl
        exact op_value rfl (wanted_by 1 true 40 rfl rfl hg) (by clear hdep hsame hsz hdf; go_simp) rfl hS (Below.refl _ _)
      | 13, ho =>
        cases ho
        obtain ⟨_, hg, rfl⟩ := hdep 1 _ 40 rfl rfl rfl
        obtain ⟨_, h50, rfl⟩ := hdep 11 _ 50 rfl rfl rfl
        obtain ⟨_, h51, rfl⟩ := hdep 12 _ 51 rfl rfl rfl
        exact op_value rfl (wanted_by 1 true 40 rfl rfl hg) (by clear hdep hsame hsz hdf; go_simp) rfl hS (Below.refl _ _)
      | 14, ho =>
        cases ho
        obtain ⟨_, hg, rfl⟩ := hdep 1 _ 40 rfl rfl rfl
        obtain ⟨_, h52, rfl⟩ := hdep 13 _ 52 rfl rfl rfl
        exact op_value (v := .slice (some ⟨W.heap.size, 0, none⟩) 1 1) (w' := W.alloc (.cells #[.string (b.extract 0 n)] 9)) rfl (wanted_by 1 true 40 rfl rfl hg) (by clear hdep hsame hsz hdf; go_simp) ⟨_, rfl, cell_at rfl⟩ ⟨hS.1.alloc _, hS.2.alloc hS.2.size _⟩ ((Below.refl _ _).alloc (Nat.le_refl _) _)
      | 15, ho =>
        cases ho
        obtain ⟨_, hg, rfl⟩ := hdep 1 _ 40 rfl rfl rfl
        obtain ⟨_, h53, bk, rfl, hbk⟩ := hdep 14 _ 53 rfl rfl rfl
        exact op_call rfl (wanted_by 1 true 40 rfl rfl hg) (by clear hdep hsame hsz hdf; go_simp) ((of_cell bk _ W hbk HBB.out).mono fun e w' ⟨he, hw⟩ => ⟨_, he, rfl, hw ▸ hS, hw ▸ Below.refl _ _⟩)
      | 16, ho =>
        cases ho
        obtain ⟨_, hg, rfl⟩ := hdep 1 _ 40 rfl rfl rfl
        obtain ⟨_, h49, rfl⟩ := hdep 10 _ 49 rfl rfl rfl
        obtain ⟨_, h54, rfl⟩ := hdep 15 _ 54 rfl rfl rfl
        exact op_value rfl (wanted_by 1 true 40 rfl rfl hg) (by clear hdep hsame hsz hdf; go_simp) rfl hS (Below.refl _ _)
      | 17, ho =>
        cases ho
        obtain ⟨_, hg, rfl⟩ := hdep 1 _ 40 rfl rfl rfl
        have h2 := hsame 2 rfl
        exact op_value rfl (wanted_by 1 true 40 rfl rfl hg) (by clear hdep hsame hsz hdf; go_simp) rfl hS (Below.refl _ _)
      | 18, ho =>
        cases ho
        obtain ⟨_, hg, rfl⟩ := hdep 1 _ 40 rfl rfl rfl
        have h7 := hsame 7 rfl
        exact op_value rfl (wanted_by 1 true 40 rfl rfl hg) (by clear hdep hsame hsz hdf; go_simp) rfl hS (Below.refl _ _)
      | 19, ho =>
        cases ho
        obtain ⟨_, hg, rfl⟩ := hdep 1 _ 40 rfl rfl rfl
        obtain ⟨_, h56, rfl⟩ := hdep 17 _ 56 rfl rfl rfl
        obtain ⟨_, h57, rfl⟩ := hdep 18 _ 57 rfl rfl rfl
        exact op_value rfl (wanted_by 1 true 40 rfl rfl hg) (by clear hdep hsame hsz hdf; go_simp) rfl hS (Below.refl _ _)
      | 20, ho =>
        cases ho
        obtain ⟨_, hg, rfl⟩ := hdep 1 _ 40 rfl rfl rfl
        obtain ⟨_, h58, rfl⟩ := hdep 19 _ 58 rfl rfl rfl
        exact op_value (v := .slice (some ⟨W.heap.size, 0, none⟩) 1 1) (w' := W.alloc (.cells #[.string (c.extract 0 n)] 9)) rfl (wanted_by 1 true 40 rfl rfl hg) (by clear hdep hsame hsz hdf; go_simp) ⟨_, rfl, cell_at rfl⟩ ⟨hS.1.alloc _, hS.2.alloc hS.2.size _⟩ ((Below.refl _ _).alloc (Nat.le_refl _) _)
      | 21, ho =>
        cases ho
        obtain ⟨_, hg, rfl⟩ := hdep 1 _ 40 rfl rfl rfl
        obtain ⟨_, h59, bk, rfl, hbk⟩ := hdep 20 _ 59 rfl rfl rfl
        exact op_call rfl (wanted_by 1 true 40 rfl rfl hg) (by clear hdep hsame hsz hdf; go_simp) ((of_cell bk _ W hbk HC.out).mono fun e w' ⟨he, hw⟩ => ⟨_, he, rfl, hw ▸ hS, hw ▸ Below.refl _ _⟩)
      | 22, ho =>
        cases ho
        obtain ⟨_, hg, rfl⟩ := hdep 1 _ 40 rfl rfl rfl
        obtain ⟨_, h55, rfl⟩ := hdep 16 _ 55 rfl rfl rfl
        obtain ⟨_, h60, rfl⟩ := hdep 21 _ 60 rfl rfl rfl
        exact op_value rfl (wanted_by 1 true 40 rfl rfl hg) (by clear hdep hsame hsz hdf; go_simp) rfl hS (Below.refl _ _)
      | 23, ho =>
        cases ho
        obtain ⟨_, hg, rfl⟩ := hdep 1 _ 40 rfl rfl rfl
        obtain ⟨_, h44, rfl⟩ := hdep 5 _ 44 rfl rfl rfl
        obtain ⟨_, h61, rfl⟩ := hdep 22 _ 61 rfl rfl rfl
        exact op_value rfl (wanted_by 1 true 40 rfl rfl hg) (by clear hdep hsame hsz hdf; have hs2 := HS.out; go_simp) rfl hS (Below.refl _ _)
      | 24, ho =>
        cases ho
        obtain ⟨_, h40, rfl⟩ := hdep 1 _ 40 rfl rfl rfl
        obtain ⟨_, h62, rfl⟩ := hdep 23 _ 62 rfl rfl rfl
        exact op_value rfl (wanted_free rfl) (by clear hdep hsame hsz hdf; go_simp) rfl hS (Below.refl _ _)
      | 25, ho =>
        cases ho
        obtain ⟨_, h63, rfl⟩ := hdep 24 _ 63 rfl rfl rfl
        exact op_value rfl (wanted_free rfl) (by clear hdep hsame hsz hdf; go_simp) rfl hS (Below.refl _ _)
      | k + 26, ho => simp at ho

end Go.Proofs.Ytdnmiipeimfccab
