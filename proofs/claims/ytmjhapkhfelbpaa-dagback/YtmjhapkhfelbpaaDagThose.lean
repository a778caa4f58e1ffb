/-
  Package dag: those, freeBy, inOrder.
-/
import Derived.Test.YtmjhapkhfelbpaaDagFree
import Derived.Test.YtmjhapkhfelbpaaSuperMem
import Derived.OneCell
import Derived.Laws.EntriesVeiled
namespace Go.Proofs.Ytmjhapkhfelbpaa
open Go.RowKit Plain
set_option linter.unusedVariables false

def intsN (l : List Nat) : List Int := l.map (fun x : Nat => (x : Int))
theorem intsN_length (l : List Nat) : (intsN l).length = l.length := by simp [intsN]
theorem intsN_append (l m : List Nat) : intsN (l ++ m) = intsN l ++ intsN m := by simp [intsN]

/-- The free ones of the first so many. -/
def freeTo (ts : List TaskP) (done : List Bool) (j : Nat) : List Nat := (List.range j).filter (freeB ts done)

theorem freeTo_yes {ts : List TaskP} {done : List Bool} {j : Nat} (h : freeB ts done j = true) : freeTo ts done (j + 1) = freeTo ts done j ++ [j] := by
  unfold freeTo; rw [List.range_succ, List.filter_append, List.filter_cons, if_pos h]; rfl
theorem freeTo_no {ts : List TaskP} {done : List Bool} {j : Nat} (h : freeB ts done j = false) : freeTo ts done (j + 1) = freeTo ts done j := by
  unfold freeTo; rw [List.range_succ, List.filter_append, List.filter_cons, if_neg (by rw [h]; decide)]; simp
theorem freeTo_le (ts : List TaskP) (done : List Bool) (j : Nat) : (freeTo ts done j).length ≤ j := by
  unfold freeTo
  have := List.length_filter_le (freeB ts done) (List.range j)
  rw [List.length_range] at this
  exact this

theorem freeL_le (ts : List TaskP) (done : List Bool) : (freeL ts done).length ≤ ts.length := freeTo_le ts done ts.length

/-- What 'those' answers: the free ones. -/
def ThoseC (w : World) (ts : List TaskV) (done : List Bool) (e : Ending) (w' : World) : Prop :=
  ∃ a c k, e = .returned (.slice a k c) ∧ k = (freeL (plainT ts) done).length ∧ IsI w' a c (intsN (freeL (plainT ts) done)) ∧ From w.heap.size a ∧ Below w.heap.size w w'

set_option maxRecDepth 20000 in
set_option maxHeartbeats 2000000 in
/-- THOSE. -/
theorem those_any (h : Nat) (a : Option Addr) (c n : Nat) (ts : List TaskV) (ad : Option Addr) (cd m : Nat) (done : List Bool) (w : World) (f : FreeAt w h a c n ts ad cd m done) (h20 : n ≤ 20) :
    Calls Try.prog 25 #[.int .i64 n, .func (.func 40) #[] #[.pointer (some ⟨h + 1, 0, none⟩), .pointer (some ⟨h, 0, none⟩), .pointer (some ⟨h + 1 + 1, 0, none⟩)]] w fun e w' => ThoseC w ts done e w' := by
  have HF : Hid (FreeAt w h a c n ts ad cd m done) := f
  have HN : Hid ((plainT ts).length = n) := by show _ = _; rw [plainT_length]; exact f.hn.symm
  clear f
  go_enter Try.func25, Try.ntmps25
  go_wp2
  go_loopw [5, 8] (fun b v wr => ∃ j k : Nat, j ≤ n ∧ v = .int .i64 j ∧ Hid (k = (freeTo (plainT ts) done j).length) ∧ wr.ownsRow w.heap.size 3 1 b k ((intsN (freeTo (plainT ts) done j)).map (Value.int .i64)) ∧ Below w.heap.size w wr) (fun _ v _ => n - (intOf v).toNat)
  case atStart => exact ⟨0, 0, by omega, rfl, rfl, World.ownsRow_nil _ _ _ _, Below.refl _ _⟩
  case round =>
    obtain ⟨j, k, hj, rfl, HK, own, hB⟩ := hrel
    have hk20 : k ≤ 20 := by have := freeTo_le (plainT ts) done j; have := HK.out; omega
    by_cases hlt : j < n
    · have hlt' : (j : Int) < n := by omega
      have cF := isFree_any h a c n ts ad cd m done j wr (HF.out.below hB) hlt
      cases hf : freeB (plainT ts) done j with
      | true =>
        rw [hf] at cF
        have HF1 : Hid (freeTo (plainT ts) done (j + 1) = freeTo (plainT ts) done j ++ [j]) := freeTo_yes hf
        clear hf
        go_wp2_with (first
          | (go_at_call 40; refine cF.mono ?_; rintro e w2 ⟨rfl, hb⟩; have hB2 := Below.tr hB hb; obtain ⟨g, cap, w3, hrun, own3, hgr, -, -, -⟩ := push_Z w2 w.heap.size _ k _ (j : Int) ((Turns.of_below (P := fun _ => False) hb).owns own (fun _ _ x => x)) hB2.size (by omega); have hB3 : Below w.heap.size w w3 := (hB2.alloc hB2.size _).grown hgr (Nat.le_trans hB2.size (by simp)) (fun i hi => (own.lt i hi).1); clear own hgr cF)
          | (at_builtin; refine Lib.wpList_append_run _ rfl _ _ _ _ rfl _ _ rfl rfl _ _ hrun ?_)
          )
        go_roundw
        case rel => exact ⟨j + 1, k + 1, by omega, by go_num, by show _ = _; rw [HF1.out, List.length_append, ← HK.out]; rfl, by rw [HF1.out, intsN_append]; exact own3, hB3⟩
        case measure => simp [intOf]; omega
      | false =>
        rw [hf] at cF
        have HF1 : Hid (freeTo (plainT ts) done (j + 1) = freeTo (plainT ts) done j) := freeTo_no hf
        clear hf
        go_wp2_with (go_at_call 40; refine cF.mono ?_; rintro e w2 ⟨rfl, hb⟩; have hB2 := Below.tr hB hb; have own2 := (Turns.of_below (P := fun _ => False) hb).owns own (fun _ _ x => x); clear own)
        go_roundw
        case rel => exact ⟨j + 1, k, by omega, by go_num, by show _ = _; rw [HF1.out]; exact HK.out, by rw [HF1.out]; exact own2, hB2⟩
        case measure => simp [intOf]; omega
    · obtain rfl : j = n := by omega
      obtain ⟨a', c', rfl, -, hI, hFr⟩ := owns_I own
      have E : Hid (freeTo (plainT ts) done j = freeL (plainT ts) done) := by show _ = _; unfold freeL; rw [HN.out]; rfl
      have hx : ¬ (j : Int) < j := by omega
      clear own
      go_wp2
      go_ret
      exact ⟨a', c', k, rfl, by rw [← E.out]; exact HK.out, by rw [← E.out]; exact hI, hFr, hB⟩

set_option maxRecDepth 20000 in
/-- FREE BY. -/
theorem freeBy_any (a : Option Addr) (c n : Nat) (ts : List TaskV) (ad : Option Addr) (cd m : Nat) (done : List Bool) (w : World) (hn : n = ts.length) (hm : m = done.length) (hnm : n = m) (hT : IsT w a c ts) (hB : IsB w ad cd done) (hin : Inside (plainT ts)) :
    Calls Try.prog 26 #[.slice a n c, .slice ad m cd] w fun e w' => e = .returned (.func (.func 40) #[] #[.pointer (some ⟨w.heap.size + 1, 0, none⟩), .pointer (some ⟨w.heap.size, 0, none⟩), .pointer (some ⟨w.heap.size + 1 + 1, 0, none⟩)]) ∧ FreeAt w' w.heap.size a c n ts ad cd m done ∧ Below w.heap.size w w' := by
  obtain ⟨X, hX⟩ : ∃ X, X = ((w.alloc (.cells #[.slice a n c] 22)).alloc (.cells #[.slice ad m cd] 25)).alloc (.cells #[.func (.func 39) #[] #[.pointer (some ⟨w.heap.size + 1, 0, none⟩)]] 53) := ⟨_, rfl⟩
  have hb : Below w.heap.size w X := by rw [hX]; exact (((Below.refl _ _).alloc (Nat.le_refl _) _).alloc (by simp) _).alloc (by simp; omega) _
  have s1 : (w.alloc (.cells #[.slice a n c] 22)).heap.size = w.heap.size + 1 := by simp
  have s2 : ((w.alloc (.cells #[.slice a n c] 22)).alloc (.cells #[.slice ad m cd] 25)).heap.size = w.heap.size + 1 + 1 := by simp
  have x0 : X.cell? ⟨w.heap.size, 0, none⟩ = some (.slice a n c) := by rw [hX]; exact cell_alloc (cell_alloc (World.cell?_alloc_at _ _ _ _ rfl) _) _
  have x1 : X.cell? ⟨w.heap.size + 1, 0, none⟩ = some (.slice ad m cd) := by rw [hX]; refine cell_alloc ?_ _; rw [← s1]; exact World.cell?_alloc_at _ _ _ _ rfl
  have x2 : X.cell? ⟨w.heap.size + 1 + 1, 0, none⟩ = some (.func (.func 39) #[] #[.pointer (some ⟨w.heap.size + 1, 0, none⟩)]) := by rw [hX, ← s2]; exact World.cell?_alloc_at _ _ _ _ rfl
  have fin : Hid (FreeAt X w.heap.size a c n ts ad cd m done) := ⟨x0, x1, x2, hT.below hb, hB.below hb, hn, hm, hnm, hin⟩
  clear hn hm hT hB hin hnm x0 x1 x2 s1 s2
  rw [hX] at fin hb
  clear hX
  go_enter Try.func26, Try.ntmps26
  go_wp2
  go_ret
  exact ⟨rfl, fin.out, hb⟩

def lenV : Value → Nat
  | .slice _ n _ => n
  | _ => 0

/-- An order, told. -/
def OrderC (w : World) (ts : List TaskV) (e : Ending) (w' : World) : Prop :=
  ∃ a c k, e = .returned (.slice a k c) ∧ k = (orderL (plainT ts)).length ∧ IsI w' a c (intsN (orderL (plainT ts))) ∧ Below w.heap.size w w'

theorem ordD_full {ts : List TaskP} {k : Nat} (h : (ordD ts k).2.length = k) : k ≤ ts.length := by
  have hat := ordD_at ts k
  have := howMany_le (ordD ts k).1
  rw [hat.many, hat.len, h] at this
  exact this

set_option maxRecDepth 20000 in
set_option maxHeartbeats 4000000 in
/-- IN ORDER. -/
theorem inOrder_any (a : Option Addr) (c n : Nat) (ts : List TaskV) (w : World) (hn : n = ts.length) (hT : IsT w a c ts) (hin : Inside (plainT ts)) (h20 : n ≤ 20) :
    Calls Try.prog 24 #[.slice a n c] w fun e w' => OrderC w ts e w' := by
  have hPn : (plainT ts).length = n := by rw [plainT_length]; exact hn.symm
  obtain ⟨Z, hmk, hZ⟩ : ∃ Z : Array Value, (∀ W : World, (Instr.makeSlice 25 (.int .i64 n) (.int .i64 n)).run Try.prog W = .ok (.slice (some ⟨W.heap.size, 0, none⟩) n n) (W.alloc (.cells Z 4))) ∧ Z = (List.replicate n (Value.bool false)).toArray :=
    ⟨madeCells #[.bool false] n, fun W => run_make_row' (P := Try.prog) 25 4 (.bool false) 1 Try.underlying25 Try.info4 rfl .i64 .i64 n (by omega) (by omega) W, made_one _ n⟩
  obtain ⟨W1, hW1⟩ : ∃ W1, W1 = w.alloc (.cells Z 4) := ⟨_, rfl⟩
  have R1 : RowT W1 w.heap.size n (List.replicate n false) := by rw [hW1]; exact RowT.new w n hZ rfl (by unfold maxLen; omega)
  have B1 : Below w.heap.size w W1 := by rw [hW1]; exact (Below.refl _ _).alloc (Nat.le_refl _) _
  have z1 : W1.heap.size = w.heap.size + 1 := by rw [hW1]; simp
  have cB := freeBy_any a c n ts (some ⟨w.heap.size, 0, none⟩) n n (List.replicate n false) W1 hn (by simp) rfl (hT.below B1) R1.isB hin
  rw [z1] at cB
  have HT : Hid (IsT w a c ts) := hT
  have HN : Hid (n = ts.length) := hn
  have HP : Hid ((plainT ts).length = n) := hPn
  have HI : Hid (Inside (plainT ts)) := hin
  have HC : ∀ (wr : World) (done : List Bool), Below w.heap.size w wr → wr.cell? ⟨w.heap.size + 1, 0, none⟩ = some (.slice a n c) → wr.cell? ⟨w.heap.size + 1 + 1, 0, none⟩ = some (.slice (some ⟨w.heap.size, 0, none⟩) n n) → wr.cell? ⟨w.heap.size + 1 + 1 + 1, 0, none⟩ = some (.func (.func 39) #[] #[.pointer (some ⟨w.heap.size + 1 + 1, 0, none⟩)]) → RowT wr w.heap.size n done → done.length = n → FreeAt wr (w.heap.size + 1) a c n ts (some ⟨w.heap.size, 0, none⟩) n n done :=
    fun wr done hb h0 h1 h2 hr hl => ⟨h0, h1, h2, hT.below hb, hr.isB, hn, hl.symm, rfl, hin⟩
  replace HC : Hid _ := HC
  clear hT hn hPn hin hZ
  go_enter Try.func24, Try.ntmps24
  go_wp2_with (first
    | (go_at_call 26; go_loud (rw [← hW1]; refine cB.mono ?_; rintro e w2 ⟨rfl, f2, b2⟩; replace b2 : Below W1.heap.size W1 w2 := (by rw [z1]; exact b2); have B2 := Below.tr B1 b2; have R2 := R1.below b2; have cT := those_any (w.heap.size + 1) a c n ts _ n n _ w2 f2 h20; clear cB R1 B1))
    | (go_at_call 25; refine cT.mono ?_; rintro e w3 ⟨af, cf, k0, rfl, hk0', hI0, hF0, b3⟩; have hk0 : Hid _ := hk0'; clear hk0'; have B3 := Below.tr B2 b3; have R3 := R2.below b3; have f3 := f2.below b3; have s3 : w.heap.size + 4 ≤ w3.heap.size := (by have := cell_lt f3.c2; have : w.heap.size + 1 + 1 + 1 < w3.heap.size := this; omega); have s2 : w.heap.size + 4 ≤ w2.heap.size := (by have := cell_lt f2.c2; have : w.heap.size + 1 + 1 + 1 < w2.heap.size := this; omega); clear cT R2 B2))
  trace_state
  have e0 : Hid (ordD (plainT ts) 0 = (List.replicate n false, [])) := by show (List.replicate _ false, _) = _; rw [HP.out]
  go_loopw [3, 6] (fun b f wr => ∃ (k : Nat) (ab : Option Addr) (cb : Nat) (af : Option Addr) (kf cf : Nat), b = .slice ab k cb ∧ wr.ownsRow (w.heap.size + 4) 3 1 b k ((intsN (ordD (plainT ts) k).2).map (Value.int .i64)) ∧ Hid ((ordD (plainT ts) k).2.length = k) ∧ f = .slice af kf cf ∧ Hid (kf = (freeL (plainT ts) (ordD (plainT ts) k).1).length) ∧ IsI wr af cf (intsN (freeL (plainT ts) (ordD (plainT ts) k).1)) ∧ From (w.heap.size + 4) af ∧ RowT wr w.heap.size n (ordD (plainT ts) k).1 ∧ wr.cell? ⟨w.heap.size + 1, 0, none⟩ = some (.slice a n c) ∧ wr.cell? ⟨w.heap.size + 1 + 1, 0, none⟩ = some (.slice (some ⟨w.heap.size, 0, none⟩) n n) ∧ wr.cell? ⟨w.heap.size + 1 + 1 + 1, 0, none⟩ = some (.func (.func 39) #[] #[.pointer (some ⟨w.heap.size + 1 + 1, 0, none⟩)]) ∧ Below w.heap.size w wr) (fun b _ _ => n - lenV b)
  case atStart =>
    refine ⟨0, none, 0, af, k0, cf, rfl, ?_, ?_, rfl, ?_, ?_, fun x hx => by have := hF0 x hx; omega, ?_, f3.c0, f3.c1, f3.c2, B3⟩
    · rw [e0.out]; exact World.ownsRow_nil _ _ _ _
    · show _ = 0; rw [e0.out]; rfl
    · show _ = _; rw [e0.out]; exact hk0.out
    · rw [e0.out]; exact hI0
    · rw [e0.out]; exact R3
  case round =>
    clear hI0 hF0 R3 B3 f3 f2 hk0 hmk hW1 s2 s3 e0 z1
    obtain ⟨k, ab, cb, af', kf, cf', rfl, own, HK, rfl, HKF, hI, hF, R, x0, x1, x2, hB⟩ := hrel
    have hkn : k ≤ n := by have := ordD_full HK.out; have := HP.out; omega
    by_cases h0 : 0 < kf
    · have h0' : (0 : Int) < kf := by omega
      obtain ⟨x, l, hL⟩ : ∃ x l, freeL (plainT ts) (ordD (plainT ts) k).1 = x :: l := by
        cases hh : freeL (plainT ts) (ordD (plainT ts) k).1 with
        | nil => have := HKF.out; rw [hh] at this; simp at this; omega
        | cons x l => exact ⟨x, l, rfl⟩
      have hx := (mem_freeL.1 (show x ∈ freeL (plainT ts) (ordD (plainT ts) k).1 by rw [hL]; simp)).1
      rw [HP.out] at hx
      have hst : Hid (ordD (plainT ts) (k + 1) = ((ordD (plainT ts) k).1.set x true, (ordD (plainT ts) k).2 ++ [x])) := ordD_cons hL
      have HK2 : Hid ((ordD (plainT ts) (k + 1)).2.length = k + 1) := by show _ = _; rw [hst.out, List.length_append, HK.out]; rfl
      have hk1 : k + 1 ≤ n := by have := ordD_full HK2.out; have := HP.out; omega
      have hxn : (x : Int) < n := by omega
      obtain ⟨bf, ff, rfl, hfl, hf0⟩ := hI.2.2 0 (x : Int) (by rw [hL]; rfl)
      have hf4 : w.heap.size + 4 ≤ bf := hF _ rfl
      rw [Nat.add_zero] at hf0
      have hkf : kf ≤ cf' := by have := hI.1; rw [intsN_length, ← HKF.out] at this; exact this
      have hcf : cf' ≤ 9223372036854775807 := hI.2.1
      obtain ⟨W2, hW2⟩ : ∃ W2, W2 = wr.setCell ⟨w.heap.size, x, none⟩ (.bool true) := ⟨_, rfl⟩
      have zW : W2.heap.size = wr.heap.size := by rw [hW2]; simp
      have hT2 : Turns (fun i => i = w.heap.size) wr W2 := by rw [hW2]; exact (Turns.refl (fun i => i = w.heap.size) wr).setCell (p := ⟨w.heap.size, x, none⟩) rfl _
      have own2 := hT2.owns own (fun g hg e => by have := (own.lt g hg).1; omega)
      have hB2 : Below w.heap.size w W2 := Below.turns hB hT2 (fun i hi => by omega)
      have R2 : RowT W2 w.heap.size n ((ordD (plainT ts) k).1.set x true) := by rw [hW2]; exact R.set x true
      obtain ⟨xv, hxv⟩ : ∃ xv, (ordD (plainT ts) k).1[x]? = some xv := ⟨_, List.getElem?_eq_getElem (by rw [(ordD_at (plainT ts) k).len, HP.out]; exact hx)⟩
      obtain ⟨hd0, hd1⟩ := R.cell hxv
      have x0' := hT2.cell (p := ⟨w.heap.size + 1, 0, none⟩) (by show ¬ w.heap.size + 1 = _; omega) x0
      have x1' := hT2.cell (p := ⟨w.heap.size + 1 + 1, 0, none⟩) (by show ¬ w.heap.size + 1 + 1 = _; omega) x1
      have x2' := hT2.cell (p := ⟨w.heap.size + 1 + 1 + 1, 0, none⟩) (by show ¬ w.heap.size + 1 + 1 + 1 = _; omega) x2
      have hf0' := hT2.cell (p := ⟨bf, ff, none⟩) (by show ¬ bf = _; omega) hf0
      have h4 : w.heap.size + 4 ≤ W2.heap.size := by have : w.heap.size + 1 + 1 + 1 < W2.heap.size := cell_lt x2'; omega
      obtain ⟨g, cap, w3, hrun, own3, hgr, -, -, hg3⟩ := push_Z W2 (w.heap.size + 4) _ k _ (x : Int) own2 h4 (by omega)
      have hT3 : Turns (fun i => w.heap.size + 4 ≤ i) W2 w3 := ((Turns.refl _ _).alloc _).grown hgr (fun i hi => (own2.lt i hi).1)
      have hB3 : Below w.heap.size w w3 := Below.turns hB2 hT3 (fun i hi => by omega)
      have R3 : RowT w3 w.heap.size n ((ordD (plainT ts) k).1.set x true) := by
        obtain ⟨cur, hcur, hr⟩ := R2
        exact ⟨cur, by rw [hT3.block _ (by omega) (by omega)]; exact hcur, hr⟩
      have y0 := hT3.cell (p := ⟨w.heap.size + 1, 0, none⟩) (by show ¬ _ ≤ w.heap.size + 1; omega) x0'
      have y1 := hT3.cell (p := ⟨w.heap.size + 1 + 1, 0, none⟩) (by show ¬ _ ≤ w.heap.size + 1 + 1; omega) x1'
      have y2 := hT3.cell (p := ⟨w.heap.size + 1 + 1 + 1, 0, none⟩) (by show ¬ _ ≤ w.heap.size + 1 + 1 + 1; omega) x2'
      have hlen : ((ordD (plainT ts) k).1.set x true).length = n := by rw [List.length_set, (ordD_at (plainT ts) k).len, HP.out]
      have cT := those_any (w.heap.size + 1) a c n ts _ n n _ w3 (HC.out w3 _ hB3 y0 y1 y2 R3 hlen) h20
      rw [zW] at hrun
      have OW : Hid (w3.ownsRow (w.heap.size + 4) 3 1 (.slice (some ⟨g, 0, none⟩) (k + 1) cap) (k + 1) ((intsN (ordD (plainT ts) (k + 1)).2).map (Value.int .i64))) := by
        show World.ownsRow _ _ _ _ _ _ _
        rw [hst.out, intsN_append]
        exact own3
      rw [show ((ordD (plainT ts) k).1.set x true) = (ordD (plainT ts) (k + 1)).1 by rw [hst.out]] at cT R3
      rw [hW2] at hrun hf0'
      have h43 : w.heap.size + 4 ≤ w3.heap.size := by have : w.heap.size + 1 + 1 + 1 < w3.heap.size := cell_lt y2; omega
      clear hI hF R R2 own own2 own3 hgr hT2 hT3 x0 x1 x2 x0' x1' x2' hB hB2 hL hlen hst hW2 zW HK HKF h4 hg3 hxv
      go_wp2_with (first
        | (go_at_call 25; refine cT.mono ?_; rintro e w4 ⟨af2, cf2, k2, rfl, hk2', hI2, hF2, b4⟩; have hk2 : Hid _ := hk2'; clear hk2' cT)
        | (at_builtin; refine Lib.wpList_append_run _ rfl _ _ _ _ rfl _ _ rfl rfl _ _ hrun ?_)
        )
      go_roundw
      case rel =>
        exact ⟨k + 1, some ⟨g, 0, none⟩, cap, af2, k2, cf2, rfl, (Turns.of_below (P := fun _ => False) b4).owns OW.out (fun _ _ x => x), HK2, rfl, hk2, hI2, hF2.mono h43, R3.below b4, cell_below b4 y0, cell_below b4 y1, cell_below b4 y2, Below.tr hB3 b4⟩
      case measure => simp [lenV]; omega
    · obtain rfl : kf = 0 := by omega
      have hL : freeL (plainT ts) (ordD (plainT ts) k).1 = [] := List.length_eq_zero_iff.1 HKF.out.symm
      have E : Hid (orderL (plainT ts) = (ordD (plainT ts) k).2) := orderL_stop (by rw [HP.out]; exact hkn) hL
      obtain ⟨a2, c2, e2, -, hI2, -⟩ := owns_I own
      obtain ⟨rfl, rfl⟩ : ab = a2 ∧ cb = c2 := by cases e2; exact ⟨rfl, rfl⟩
      have fin : Hid (OrderC w ts (.returned (.slice ab k cb)) wr) := ⟨ab, cb, k, rfl, by rw [E.out]; exact HK.out.symm, by rw [E.out]; exact hI2, hB⟩
      clear own hI hF R x0 x1 x2 hL e2 hI2 HK HKF E h0
      go_wp2
      go_ret
      exact fin.out

end Go.Proofs.Ytmjhapkhfelbpaa
