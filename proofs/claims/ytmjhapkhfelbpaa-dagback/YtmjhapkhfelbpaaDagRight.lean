/-
  Package dag: Right, Order, Free.
-/
import Derived.Test.YtmjhapkhfelbpaaDagThose
import Derived.Test.YtmjhapkhfelbpaaDagNeeds
namespace Go.Proofs.Ytmjhapkhfelbpaa
open Go.RowKit Plain
set_option linter.unusedVariables false

set_option maxRecDepth 20000 in
set_option maxHeartbeats 2000000 in
/-- RIGHT. -/
theorem right16_any (s : ByteArray) (a : Option Addr) (c n : Nat) (ts : List TaskV) (w : World) (hn : n = ts.length) (hT : IsT w a c ts) :
    Calls Try.prog 12 #[.agg #[.string s, .slice a n c]] w fun e w' => e = .returned (.int .i64 (rightG s (plainT ts))) ∧ Below w.heap.size w w' := by
  have hP : (plainT ts).length = n := by rw [plainT_length]; exact hn.symm
  have hnm : n ≤ 9223372036854775807 := by rw [hn]; exact Nat.le_trans hT.1 hT.2.1
  have hB0 : Below w.heap.size w (w.alloc (.cells #[.string s, .slice a n c] 24)) := (Below.refl _ _).alloc (Nat.le_refl _) _
  by_cases h10 : 10 < n
  · have h10' : (10 : Int) < n := by omega
    have E : Hid (rightG s (plainT ts) = 2) := rightG_long (by rw [hP]; exact h10)
    clear hn hT hP
    go_enter Try.func12, Try.ntmps12
    go_wp2
    go_ret
    exact ⟨by rw [E.out]; rfl, hB0⟩
  · have h10' : ¬ (10 : Int) < n := by omega
    have cN := fun V => isName_any s V
    cases hm : nameB s with
    | false =>
      rw [hm] at cN
      have E : Hid (rightG s (plainT ts) = 1) := rightG_arg (by rw [hP]; exact h10) (by rw [hm]; rfl)
      clear hn hT hP hm
      go_enter Try.func12, Try.ntmps12
      go_wp2_with (go_at_call 27; refine (cN _).mono ?_; rintro e w2 ⟨rfl, rfl⟩)
      go_ret
      exact ⟨by rw [E.out]; rfl, hB0⟩
    | true =>
      rw [hm] at cN
      have bx := boxL_new w [.string s, .slice a n c] 24 rfl
      obtain ⟨W, hW⟩ : ∃ W, W = w.alloc (.cells #[.string s, .slice a n c] 24) := ⟨_, rfl⟩
      have bX : BoxL W w.heap.size [.string s, .slice a n c] := by rw [hW]; exact bx
      rw [← hW] at hB0
      have cA := areTasks_any a c n ts W hn (hT.below hB0) (by omega)
      cases ha : (decide (0 < n) && tasksB (plainT ts)) with
      | false =>
        rw [ha] at cA
        have E : Hid (rightG s (plainT ts) = 1) := rightG_arg (by rw [hP]; exact h10) (by rw [hm, hP, Bool.true_and]; exact ha)
        have q1 := bX.1 1 _ rfl
        clear hn hT hP hm bx bX ha
        rw [hW] at q1
        go_enter Try.func12, Try.ntmps12
        go_wp2_with (first
          | (go_at_call 27; refine (cN _).mono ?_; rintro e w2 ⟨rfl, rfl⟩)
          | (go_at_call 28; rw [← hW]; refine cA.mono ?_; rintro e w2 ⟨rfl, hb⟩; have hB2 := Below.tr hB0 hb))
        go_ret
        exact ⟨by rw [E.out]; rfl, hB2⟩
      | true =>
        rw [ha] at cA
        rw [Bool.and_eq_true, decide_eq_true_eq] at ha
        have hin := tasksB_inside ha.2
        have cI : ∀ V, Below w.heap.size w V → Calls Try.prog 24 #[.slice a n c] V fun e w' => ∃ a' c' k, e = .returned (.slice a' k c') ∧ Hid (k = (orderL (plainT ts)).length) ∧ k ≤ 10 ∧ Below V.heap.size V w' := fun V hb => (inOrder_any a c n ts V hn (hT.below hb) hin (by omega)).mono (by
          rintro e w' ⟨a', c', k, he, hk, _, hb2⟩
          refine ⟨a', c', k, he, hk, ?_, hb2⟩
          have hat := ordD_at (plainT ts) (plainT ts).length
          have := howMany_le (ordD (plainT ts) (plainT ts).length).1
          rw [hat.many, hat.len] at this
          have h2 : (orderL (plainT ts)).length ≤ (plainT ts).length := this
          omega)
        have EC : Hid ((orderL (plainT ts)).length < n → rightG s (plainT ts) = 160) := fun h => rightG_cycle (by omega) (by rw [hm, hP, Bool.true_and, Bool.and_eq_true, decide_eq_true_eq]; exact ha) (by omega)
        have EZ : Hid (¬ (orderL (plainT ts)).length < n → rightG s (plainT ts) = 0) := fun h => rightG_zero (by omega) (by rw [hm, hP, Bool.true_and, Bool.and_eq_true, decide_eq_true_eq]; exact ha) (by omega)
        have q1 := bX.1 1 _ rfl
        have HX : Hid (BoxL W w.heap.size [.string s, .slice a n c]) := bX
        clear hn hT hP hm bx bX ha hin
        rw [hW] at q1
        go_enter Try.func12, Try.ntmps12
        go_wp2_with (first
          | (go_at_call 27; refine (cN _).mono ?_; rintro e w2 ⟨rfl, rfl⟩)
          | (go_at_call 28; rw [← hW]; refine cA.mono ?_; rintro e w2 ⟨rfl, hb⟩; have hB2 := Below.tr hB0 hb; have q2 := (HX.out.below hb).1 1 _ rfl))
        clear hW q1 cN cA HX hB0 hb
        go_region_held3 (fun X => X.cell? ⟨w.heap.size, 1, none⟩ = some (.slice a n c)) (exact q2) (first
          | (go_at_call 24; refine (cI _ hB2.drew).mono ?_; rintro e w3 ⟨a', c', k, rfl, HK, hk10, hb3⟩; have hB3 := Below.tr hB2.drew hb3; replace q2 := cell_below hb3 q2))
        by_cases hkn : k < n
        · have E : Hid (rightG s (plainT ts) = 160) := EC.out (by rw [← HK.out]; exact hkn)
          have hd : decide (k < n) = true := decide_eq_true hkn
          clear EC EZ HK
          go_wp2
          go_ret
          exact ⟨by rw [E.out]; rfl, hB3⟩
        · have E : Hid (rightG s (plainT ts) = 0) := EZ.out (by rw [← HK.out]; exact hkn)
          have hd : decide (k < n) = false := decide_eq_false hkn
          clear EC EZ HK
          go_wp2
          go_ret
          exact ⟨by rw [E.out]; rfl, hB3⟩

/-- What Order answers. -/
def ordR (s : ByteArray) (ts : List TaskP) : List Nat := if rightG s ts = 0 then orderL ts else []
def Order2 (w : World) (s : ByteArray) (ts : List TaskV) (e : Ending) (w' : World) : Prop :=
  ∃ a c k, e = .returned (.tuple #[.slice a k c, .int .i64 (rightG s (plainT ts))]) ∧ k = (ordR s (plainT ts)).length ∧ IsI w' a c (intsN (ordR s (plainT ts))) ∧ Below w.heap.size w w'

set_option maxRecDepth 20000 in
set_option maxHeartbeats 2000000 in
/-- ORDER. -/
theorem order16_any (s : ByteArray) (a : Option Addr) (c n : Nat) (ts : List TaskV) (w : World) (hn : n = ts.length) (hT : IsT w a c ts) :
    Calls Try.prog 10 #[.agg #[.string s, .slice a n c]] w fun e w' => Order2 w s ts e w' := by
  obtain ⟨W, hW⟩ : ∃ W, W = w.alloc (.cells #[.string s, .slice a n c] 24) := ⟨_, rfl⟩
  have bX : BoxL W w.heap.size [.string s, .slice a n c] := by rw [hW]; exact boxL_new _ _ _ rfl
  have hB0 : Below w.heap.size w W := by rw [hW]; exact (Below.refl _ _).alloc (Nat.le_refl _) _
  have cR := right16_any s a c n ts W hn (hT.below hB0)
  obtain ⟨r, hr⟩ : ∃ r, r = rightG s (plainT ts) := ⟨_, rfl⟩
  rw [← hr] at cR
  by_cases h0 : r = 0
  · subst h0
    have ok := rightG_ok hr.symm
    have cI : ∀ V, Below w.heap.size w V → Calls Try.prog 24 #[.slice a n c] V fun e w' => OrderC V ts e w' := fun V hb => inOrder_any a c n ts V hn (hT.below hb) ok.2.2.2.2.2.2 (by have := ok.1; rw [plainT_length] at this; omega)
    have fin : Hid (∀ a' c' k w', k = (orderL (plainT ts)).length → IsI w' a' c' (intsN (orderL (plainT ts))) → Below w.heap.size w w' → Order2 w s ts (.returned (.tuple #[.slice a' k c', .int .i64 0])) w') := by
      intro a' c' k w' hk hI hb
      have e : ordR s (plainT ts) = orderL (plainT ts) := if_pos hr.symm
      exact ⟨a', c', k, by rw [← hr], by rw [e]; exact hk, by rw [e]; exact hI, hb⟩
    clear hr hn hT ok
    go_enter Try.func10, Try.ntmps10
    go_wp2_with (first
      | (go_at_call 12; rw [← hW]; refine cR.mono ?_; rintro e w2 ⟨rfl, hb⟩; have hB2 := Below.tr hB0 hb; have q1 := (bX.below hb).1 1 _ rfl)
      | (go_at_call 24; refine (cI _ hB2).mono ?_; rintro e w3 ⟨a', c', k, rfl, hk', hI, hb3⟩; have hk : Hid _ := hk'; have hB3 := Below.tr hB2 hb3; clear hk'))
    go_ret2
    exact fin.out a' c' k w3 hk.out hI hB3
  · have h0' : (r != 0) = true := by simpa using h0
    have fin : Hid (∀ w', Below w.heap.size w w' → Order2 w s ts (.returned (.tuple #[.slice none 0 0, .int .i64 r])) w') := by
      intro w' hb
      have e : ordR s (plainT ts) = [] := if_neg (by rw [← hr]; exact h0)
      exact ⟨none, 0, 0, by rw [← hr], by rw [e]; rfl, by rw [e]; exact isI_nil _, hb⟩
    clear hr hn hT bX
    go_enter Try.func10, Try.ntmps10
    go_wp2_with (go_at_call 12; rw [← hW]; refine cR.mono ?_; rintro e w2 ⟨rfl, hb⟩; have hB2 := Below.tr hB0 hb)
    go_ret2
    exact fin.out _ hB2

/-- What Free answers. -/
def freeE (s : ByteArray) (ts : List TaskP) (done : List Bool) : Int := if rightG s ts = 0 then (if done.length = ts.length then 0 else 1) else rightG s ts
def freeR (s : ByteArray) (ts : List TaskP) (done : List Bool) : List Nat := if freeE s ts done = 0 then freeL ts done else []
def Free2 (w : World) (s : ByteArray) (ts : List TaskV) (done : List Bool) (e : Ending) (w' : World) : Prop :=
  ∃ a c k, e = .returned (.tuple #[.slice a k c, .int .i64 (freeE s (plainT ts) done)]) ∧ k = (freeR s (plainT ts) done).length ∧ IsI w' a c (intsN (freeR s (plainT ts) done)) ∧ From w.heap.size a ∧ Below w.heap.size w w'

theorem free2_none {w w' : World} {s : ByteArray} {ts : List TaskV} {done : List Bool} {r : Int} (hr : freeE s (plainT ts) done = r) (h0 : ¬ r = 0) (hb : Below w.heap.size w w') : Free2 w s ts done (.returned (.tuple #[.slice none 0 0, .int .i64 r])) w' := by
  have e : freeR s (plainT ts) done = [] := if_neg (by rw [hr]; exact h0)
  exact ⟨none, 0, 0, by rw [hr], by rw [e]; rfl, by rw [e]; exact isI_nil _, from_nil _, hb⟩

set_option maxRecDepth 20000 in
set_option maxHeartbeats 2000000 in
/-- FREE. -/
theorem free16_any (s : ByteArray) (a : Option Addr) (c n : Nat) (ts : List TaskV) (ad : Option Addr) (cd m : Nat) (done : List Bool) (w : World) (hn : n = ts.length) (hT : IsT w a c ts) (hm : m = done.length) (hD : IsB w ad cd done) :
    Calls Try.prog 11 #[.agg #[.string s, .slice a n c], .slice ad m cd] w fun e w' => Free2 w s ts done e w' := by
  obtain ⟨W, hW⟩ : ∃ W, W = w.alloc (.cells #[.string s, .slice a n c] 24) := ⟨_, rfl⟩
  have bX : BoxL W w.heap.size [.string s, .slice a n c] := by rw [hW]; exact boxL_new _ _ _ rfl
  have hB0 : Below w.heap.size w W := by rw [hW]; exact (Below.refl _ _).alloc (Nat.le_refl _) _
  have cR := right16_any s a c n ts W hn (hT.below hB0)
  have hnm : n ≤ 9223372036854775807 := by rw [hn]; exact Nat.le_trans hT.1 hT.2.1
  have hmm : m ≤ 9223372036854775807 := by rw [hm]; exact Nat.le_trans hD.1 hD.2.1
  obtain ⟨r, hr⟩ : ∃ r, r = rightG s (plainT ts) := ⟨_, rfl⟩
  rw [← hr] at cR
  by_cases h0 : r = 0
  · subst h0
    by_cases hmn : m = n
    · subst hmn
      have ok := rightG_ok hr.symm
      have hE : freeE s (plainT ts) done = 0 := by unfold freeE; rw [if_pos hr.symm, if_pos (by rw [plainT_length, ← hn, ← hm])]
      have hm20 : m ≤ 20 := by have := ok.1; rw [plainT_length] at this; omega
      have cB : ∀ V, Below w.heap.size w V → Calls Try.prog 26 #[.slice a m c, .slice ad m cd] V fun e w' => e = .returned (.func (.func 40) #[] #[.pointer (some ⟨V.heap.size + 1, 0, none⟩), .pointer (some ⟨V.heap.size, 0, none⟩), .pointer (some ⟨V.heap.size + 1 + 1, 0, none⟩)]) ∧ FreeAt w' V.heap.size a c m ts ad cd m done ∧ Below V.heap.size V w' := fun V hb => freeBy_any a c m ts ad cd m done V hn hm rfl (hT.below hb) (hD.below hb) ok.2.2.2.2.2.2
      have cT : ∀ h V, FreeAt V h a c m ts ad cd m done → Calls Try.prog 25 #[.int .i64 m, .func (.func 40) #[] #[.pointer (some ⟨h + 1, 0, none⟩), .pointer (some ⟨h, 0, none⟩), .pointer (some ⟨h + 1 + 1, 0, none⟩)]] V fun e w' => ThoseC V ts done e w' := fun h V f => those_any h a c m ts ad cd m done V f hm20
      have fin : Hid (∀ a' c' k w', k = (freeL (plainT ts) done).length → IsI w' a' c' (intsN (freeL (plainT ts) done)) → From w.heap.size a' → Below w.heap.size w w' → Free2 w s ts done (.returned (.tuple #[.slice a' k c', .int .i64 0])) w') := by
        intro a' c' k w' hk hI hf hb
        have e : freeR s (plainT ts) done = freeL (plainT ts) done := if_pos hE
        exact ⟨a', c', k, by rw [hE], by rw [e]; exact hk, by rw [e]; exact hI, hf, hb⟩
      clear hr hn hT hm hD ok hE
      go_enter Try.func11, Try.ntmps11
      go_wp2_with (go_at_call 12; rw [← hW]; refine cR.mono ?_; rintro e w2 ⟨rfl, hb⟩; have hB2 := Below.tr hB0 hb; have q1 := (bX.below hb).1 1 _ rfl)
      clear hW bX cR hB0 hb
      go_region_held3 (fun X => X.cell? ⟨w.heap.size, 1, none⟩ = some (.slice a m c)) (exact q1) (first
        | (go_at_call 26; refine (cB _ hB2.drew).mono ?_; rintro e w3 ⟨rfl, hf3, hb3⟩; have hB3 := Below.tr hB2.drew hb3; replace q1 := cell_below hb3 q1)
        | (go_at_call 25; refine (cT _ _ hf3).mono ?_; rintro e w4 ⟨a', c', k, rfl, hk', hI, hF, hb4⟩; have hk : Hid _ := hk'; have hB4 := Below.tr hB3 hb4; replace q1 := cell_below hb4 q1; clear hk'))
      go_wp2
      go_ret2
      exact fin.out a' c' k w4 hk.out hI (hF.mono hB3.size) hB4
    · have hmn' : ((m : Int) != n) = true := by simp; omega
      have hE : freeE s (plainT ts) done = 1 := by unfold freeE; rw [if_pos hr.symm, if_neg (by rw [plainT_length]; omega)]
      have fin : Hid (∀ w', Below w.heap.size w w' → Free2 w s ts done (.returned (.tuple #[.slice none 0 0, .int .i64 1])) w') := fun w' hb => free2_none hE (by decide) hb
      clear hr hn hT hm hD hE hmn
      go_enter Try.func11, Try.ntmps11
      go_wp2_with (go_at_call 12; rw [← hW]; refine cR.mono ?_; rintro e w2 ⟨rfl, hb⟩; have hB2 := Below.tr hB0 hb; have q1 := (bX.below hb).1 1 _ rfl)
      go_ret2
      exact fin.out _ hB2
  · have h0' : (r != 0) = true := by simpa using h0
    have hE : freeE s (plainT ts) done = r := by unfold freeE; rw [if_neg (by rw [← hr]; exact h0)]; exact hr.symm
    have fin : Hid (∀ w', Below w.heap.size w w' → Free2 w s ts done (.returned (.tuple #[.slice none 0 0, .int .i64 r])) w') := fun w' hb => free2_none hE h0 hb
    clear hr hn hT hm hD bX hE
    go_enter Try.func11, Try.ntmps11
    go_wp2_with (go_at_call 12; rw [← hW]; refine cR.mono ?_; rintro e w2 ⟨rfl, hb⟩; have hB2 := Below.tr hB0 hb)
    go_ret2
    exact fin.out _ hB2

end Go.Proofs.Ytmjhapkhfelbpaa
