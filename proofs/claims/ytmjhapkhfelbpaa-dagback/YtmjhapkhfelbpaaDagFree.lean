/-
  Package dag: the closures that ask whether a task is free, and those of which it holds.
-/
import Derived.Test.YtmjhapkhfelbpaaDagMem
import Derived.Test.YtmjhapkhfelbpaaDagShape
import Derived.Test.YtmjhapkhfelbpaaBitsMem
import Derived.Test.YtmjhapkhfelbpaaAnyheld
import Derived.Lib.AppendZeros
namespace Go.Proofs.Ytmjhapkhfelbpaa
open Go.RowKit Plain
set_option linter.unusedVariables false

theorem IsB.onAt {w : World} {a : Option Addr} {c : Nat} {l : List Bool} (h : IsB w a c l) {x : Nat} (hx : x < l.length) : ∃ b o, a = Option.some ⟨b, o, none⟩ ∧ b < w.heap.size ∧ w.cell? ⟨b, o + x, none⟩ = Option.some (.bool (Plain.onAt l x)) := by
  have hv : Plain.onAt l x = l[x] := by unfold Plain.onAt; rw [List.getElem?_eq_getElem hx]; rfl
  obtain ⟨b, o, ha, hl, hc⟩ := h.2.2 x l[x] (List.getElem?_eq_getElem hx)
  exact ⟨b, o, ha, hl, by rw [hv]; exact hc⟩

set_option maxRecDepth 20000 in
/-- IS MISSING. -/
theorem missing_any (h : Nat) (ad : Option Addr) (cd m : Nat) (done : List Bool) (x : Nat) (V : World) (hc : V.cell? ⟨h, 0, none⟩ = some (.slice ad m cd)) (hm : m = done.length) (hB : IsB V ad cd done) (hx : x < m) :
    Calls Try.prog 39 #[.int .i64 x, .pointer (some ⟨h, 0, none⟩)] V fun e w' => e = .returned (.bool (!onAt done x)) ∧ V = w' := by
  obtain ⟨b, o, rfl, -, hd⟩ := hB.onAt (x := x) (by omega)
  have hx' : (x : Int) < m := by omega
  have hmc : m ≤ 9223372036854775807 := by rw [hm]; exact Nat.le_trans hB.1 hB.2.1
  generalize onAt done x = v at *
  clear hB hm
  go_enter Try.func39, Try.ntmps39
  go_wp2
  go_ret
  exact ⟨rfl, rfl⟩

/-- Which of these are not done. -/
def missB (done : List Bool) (ns : List Int) : Bool := ns.any fun x => !onAt done x.toNat

theorem missB_all (done : List Bool) (ns : List Int) : (!missB done ns) = ns.all fun x => onAt done x.toNat := by
  unfold missB
  induction ns with
  | nil => rfl
  | cons x xs ih => simp only [List.any_cons, List.all_cons, Bool.not_or, ih, Bool.not_not]

set_option maxRecDepth 20000 in
set_option maxHeartbeats 1000000 in
/-- INDEX of the first that is missing. -/
theorem indexMissing_any (h : Nat) (ad : Option Addr) (cd m : Nat) (done : List Bool) (a : Option Addr) (c k : Nat) (ns : List Int) (V : World) (hc : V.cell? ⟨h, 0, none⟩ = some (.slice ad m cd)) (hm : m = done.length) (hB : IsB V ad cd done) (hk : k = ns.length) (hI : IsI V a c ns) (hx : ∀ x ∈ ns, 0 ≤ x ∧ x < m) :
    Calls Try.prog 53 #[.slice a k c, .func (.func 39) #[] #[.pointer (some ⟨h, 0, none⟩)]] V fun e w' => ∃ r : Int, e = .returned (.int .i64 r) ∧ decide (0 ≤ r) = missB done ns ∧ V = w' := by
  have hkm : k ≤ 9223372036854775807 := by rw [hk]; exact Nat.le_trans hI.1 hI.2.1
  have HI : Hid (IsI V a c ns) := hI
  have HK : Hid (k = ns.length) := hk
  have HX : Hid (∀ x ∈ ns, 0 ≤ x ∧ x < m) := hx
  have cM : ∀ x : Nat, x < m → Calls Try.prog 39 #[.int .i64 x, .pointer (some ⟨h, 0, none⟩)] V fun e w' => e = .returned (.bool (!onAt done x)) ∧ V = w' := fun x hx => missing_any h ad cd m done x V hc hm hB hx
  clear hc hm hB hk hI hx
  go_enter Try.func53, Try.ntmps53
  go_wp2
  go_loopw [8] (fun v wr => ∃ j : Nat, j ≤ k ∧ v = .int .i64 j ∧ Hid (missB done (ns.take j) = false) ∧ wr = V) (fun v _ => k - (intOf v).toNat)
  case atStart => exact ⟨0, by omega, rfl, rfl, rfl⟩
  case round =>
    obtain ⟨j, hj, rfl, HM, rfl⟩ := hrel
    by_cases hlt : j < k
    · have hlt' : (j : Int) < k := by omega
      obtain ⟨x, hx⟩ : ∃ x, ns[j]? = some x := ⟨_, List.getElem?_eq_getElem (by rw [← HK.out]; exact hlt)⟩
      obtain ⟨b, o, rfl, -, hc⟩ := HI.out.2.2 j x hx
      obtain ⟨h0, h1⟩ := HX.out x (List.mem_of_getElem? hx)
      obtain ⟨y, rfl⟩ : ∃ y : Nat, x = y := ⟨x.toNat, by omega⟩
      have cY := cM y (by omega)
      have HMn : Hid (missB done (ns.take (j + 1)) = (!onAt done y)) := by
        show _ = _
        have := HM.out
        unfold missB at this ⊢
        rw [List.take_add_one, hx, List.any_append, this]
        simp
      have HT : Hid (onAt done y = false → missB done ns = true) := fun e => by
        unfold missB
        rw [List.any_eq_true]
        exact ⟨(y : Int), List.mem_of_getElem? hx, by rw [Int.toNat_natCast, e]; rfl⟩
      clear cM hx h0 h1 HM
      cases hy : onAt done y with
      | true =>
        rw [hy] at cY HMn
        go_wp2_with (go_at_call 39; refine cY.mono ?_; rintro e w' ⟨rfl, rfl⟩)
        go_roundw
        case rel => exact ⟨j + 1, by omega, by go_num, HMn, trivial⟩
        case measure => simp [intOf]; omega
      | false =>
        rw [hy] at cY
        have e : Hid (missB done ns = true) := HT.out hy
        go_wp2_with (go_at_call 39; refine cY.mono ?_; rintro e w' ⟨rfl, rfl⟩)
        go_ret
        exact ⟨j, rfl, by rw [e.out, decide_eq_true_eq]; omega, rfl⟩
    · obtain rfl : j = k := by omega
      have e : Hid (missB done ns = false) := by
        have := HM.out
        rw [HK.out, List.take_length] at this
        exact this
      have hx : ¬ (j : Int) < j := by omega
      clear HM cM
      go_wp2
      go_ret
      exact ⟨-1, rfl, by rw [e.out]; decide, rfl⟩

set_option maxRecDepth 20000 in
theorem containsMissing_any (h : Nat) (ad : Option Addr) (cd m : Nat) (done : List Bool) (a : Option Addr) (c k : Nat) (ns : List Int) (V : World) (hc : V.cell? ⟨h, 0, none⟩ = some (.slice ad m cd)) (hm : m = done.length) (hB : IsB V ad cd done) (hk : k = ns.length) (hI : IsI V a c ns) (hx : ∀ x ∈ ns, 0 ≤ x ∧ x < m) :
    Calls Try.prog 41 #[.slice a k c, .func (.func 39) #[] #[.pointer (some ⟨h, 0, none⟩)]] V fun e w' => e = .returned (.bool (missB done ns)) ∧ V = w' := by
  have cI := indexMissing_any h ad cd m done a c k ns V hc hm hB hk hI hx
  clear hc hm hB hk hI hx
  go_enter Try.func41, Try.ntmps41
  go_wp2_with (go_at_call 53; refine cI.mono ?_; rintro e w' ⟨r, rfl, hr, rfl⟩)
  all_goals (go_ret; exact ⟨by rw [← hr]; rfl, rfl⟩)

/-- Three boxes: the tasks, what is done, and the closure over it. -/
structure FreeAt (V : World) (h : Nat) (a : Option Addr) (c n : Nat) (ts : List TaskV) (ad : Option Addr) (cd m : Nat) (done : List Bool) : Prop where
  c0 : V.cell? ⟨h, 0, none⟩ = some (.slice a n c)
  c1 : V.cell? ⟨h + 1, 0, none⟩ = some (.slice ad m cd)
  c2 : V.cell? ⟨h + 1 + 1, 0, none⟩ = some (.func (.func 39) #[] #[.pointer (some ⟨h + 1, 0, none⟩)])
  hT : IsT V a c ts
  hB : IsB V ad cd done
  hn : n = ts.length
  hm : m = done.length
  hnm : n = m
  hin : Inside (plainT ts)

theorem FreeAt.below {V V' : World} {h : Nat} {a : Option Addr} {c n : Nat} {ts : List TaskV} {ad : Option Addr} {cd m : Nat} {done : List Bool} (f : FreeAt V h a c n ts ad cd m done) (hb : Below V.heap.size V V') : FreeAt V' h a c n ts ad cd m done :=
  ⟨cell_below hb f.c0, cell_below hb f.c1, cell_below hb f.c2, f.hT.below hb, f.hB.below hb, f.hn, f.hm, f.hnm, f.hin⟩

set_option maxRecDepth 20000 in
set_option maxHeartbeats 2000000 in
/-- IS FREE. -/
theorem isFree_any (h : Nat) (a : Option Addr) (c n : Nat) (ts : List TaskV) (ad : Option Addr) (cd m : Nat) (done : List Bool) (i : Nat) (V : World) (f : FreeAt V h a c n ts ad cd m done) (hi : i < n) :
    Calls Try.prog 40 #[.int .i64 i, .pointer (some ⟨h + 1, 0, none⟩), .pointer (some ⟨h, 0, none⟩), .pointer (some ⟨h + 1 + 1, 0, none⟩)] V fun e w' => e = .returned (.bool (freeB (plainT ts) done i)) ∧ Below V.heap.size V w' := by
  obtain ⟨c0, c1, c2, hT, hB, hn, hm, rfl, hin⟩ := f
  obtain ⟨bd, od, rfl, -, hd⟩ := hB.onAt (x := i) (by omega)
  obtain ⟨t, ht⟩ : ∃ t, ts[i]? = some t := ⟨_, List.getElem?_eq_getElem (by omega)⟩
  obtain ⟨b, o, rfl, -⟩ := hT.some (by omega)
  obtain ⟨z0, -, -, -, hI⟩ := hT.at ht
  have hi' : (i : Int) < n := by omega
  have hE : Hid (freeB (plainT ts) done i = (!onAt done i && !missB done t.ns)) := by
    show _ = _
    unfold freeB
    rw [missB_all, needsAt_get ht]
  have cC : ∀ X, Below V.heap.size V X → Calls Try.prog 41 #[.slice t.a t.ns.length t.c, .func (.func 39) #[] #[.pointer (some ⟨h + 1, 0, none⟩)]] X fun e w' => e = .returned (.bool (missB done t.ns)) ∧ X = w' := fun X hb => containsMissing_any (h + 1) _ cd n done t.a t.c t.ns.length t.ns X (cell_below hb c1) hm (hB.below hb) rfl (hI.below hb) (fun x hx => by
    have := hin i x (by rw [needsAt_get ht]; exact hx)
    rw [plainT_length] at this
    omega)
  have hnm : n ≤ 9223372036854775807 := by rw [hn]; exact Nat.le_trans hT.1 hT.2.1
  clear hT hB hn hm hin hI ht
  generalize t.a = ta at *
  generalize t.ns.length = k at *
  generalize t.c = tc at *
  generalize missB done t.ns = mb at *
  rw [hE.out]
  clear hE
  cases hv : onAt done i with
  | true =>
    rw [hv] at hd
    clear cC
    go_enter Try.func40, Try.ntmps40
    go_wp2
    refine wp_region_noPanic ?_
    refine wp_region_held_drew (S := fun X => X.cell? ⟨h + 1, 0, none⟩ = some (.slice (some ⟨bd, od, none⟩) n cd) ∧ X.cell? ⟨bd, od + i, none⟩ = some (.bool true)) (by kernel_rfl) ⟨c1, hd⟩ (fun hHeld => ?_)
    refine take_at (i := 0) (v := ?_) rfl (by kernel_rfl) (by kernel_rfl) (by kernel_rfl) (fun _ _ _ h => h) (Or.inl ⟨by rfl, ?_⟩) (by assumption) ?_
    rotate_left 1
    · (intro w hSw; (try dsimp only at hSw); go_simp; (try with_reducible rfl))
    try simp only [Act.put, List.setIfInBounds_toArray, List.set_cons_zero, List.set_cons_succ]
    refine take_at (i := 1) (v := ?_) rfl (by kernel_rfl) (by kernel_rfl) (by kernel_rfl) (fun _ _ _ h => h) (Or.inl ⟨by rfl, ?_⟩) (by assumption) ?_
    rotate_left 1
    · (intro w hSw; (try dsimp only at hSw); go_simp; (try with_reducible rfl))
    try simp only [Act.put, List.setIfInBounds_toArray, List.set_cons_zero, List.set_cons_succ]
    refine take_at (i := 2) (v := ?_) rfl (by kernel_rfl) (by kernel_rfl) (by kernel_rfl) (fun _ _ _ h => h) (Or.inl ⟨by rfl, ?_⟩) (by assumption) ?_
    rotate_left 1
    · (intro w hSw; (try dsimp only at hSw); go_simp; (try with_reducible rfl))
    try simp only [Act.put, List.setIfInBounds_toArray, List.set_cons_zero, List.set_cons_succ]
    refine take_at (i := 3) (v := ?_) rfl (by kernel_rfl) (by kernel_rfl) (by kernel_rfl) (fun _ _ _ h => h) (Or.inl ⟨by rfl, ?_⟩) (by assumption) ?_
    rotate_left 1
    · (intro w hSw; (try dsimp only at hSw); go_simp; (try with_reducible rfl))
    try simp only [Act.put, List.setIfInBounds_toArray, List.set_cons_zero, List.set_cons_succ]
    refine take_at (i := 4) (v := ?_) rfl (by kernel_rfl) (by kernel_rfl) (by kernel_rfl) (fun _ _ _ h => h) (Or.inl ⟨by rfl, ?_⟩) (by assumption) ?_
    rotate_left 1
    · (intro w hSw; (try dsimp only at hSw); go_simp; (try with_reducible rfl))
    try simp only [Act.put, List.setIfInBounds_toArray, List.set_cons_zero, List.set_cons_succ]
    refine take_at (i := 5) (v := ?_) rfl (by kernel_rfl) (by kernel_rfl) (by kernel_rfl) (fun _ _ _ h => h) (Or.inl ⟨by rfl, ?_⟩) (by assumption) ?_
    rotate_left 1
    · (intro w hSw; (try dsimp only at hSw); go_simp; (try with_reducible rfl))
    try simp only [Act.put, List.setIfInBounds_toArray, List.set_cons_zero, List.set_cons_succ]
    refine take_at (i := 6) (v := undef) rfl (by kernel_rfl) (by kernel_rfl) (by kernel_rfl) (fun _ _ _ h => h) (Or.inr ⟨by rfl, rfl⟩) (by assumption) ?_
    try simp only [Act.put, List.setIfInBounds_toArray, List.set_cons_zero, List.set_cons_succ]
    refine take_at (i := 7) (v := undef) rfl (by kernel_rfl) (by kernel_rfl) (by kernel_rfl) (fun _ _ _ h => h) (Or.inr ⟨by rfl, rfl⟩) (by assumption) ?_
    try simp only [Act.put, List.setIfInBounds_toArray, List.set_cons_zero, List.set_cons_succ]
    refine take_at (i := 8) (v := undef) rfl (by kernel_rfl) (by kernel_rfl) (by kernel_rfl) (fun _ _ _ h => h) (Or.inr ⟨by rfl, rfl⟩) (by assumption) ?_
    try simp only [Act.put, List.setIfInBounds_toArray, List.set_cons_zero, List.set_cons_succ]
    refine take_at (i := 9) (v := undef) rfl (by kernel_rfl) (by kernel_rfl) (by kernel_rfl) (fun _ _ _ h => h) (Or.inr ⟨by rfl, rfl⟩) (by assumption) ?_
    try simp only [Act.put, List.setIfInBounds_toArray, List.set_cons_zero, List.set_cons_succ]
    refine take_at (i := 10) (v := undef) rfl (by kernel_rfl) (by kernel_rfl) (by kernel_rfl) (fun _ _ _ h => h) (Or.inr ⟨by rfl, rfl⟩) (by assumption) ?_
    try simp only [Act.put, List.setIfInBounds_toArray, List.set_cons_zero, List.set_cons_succ]
    refine take_at (i := 11) (v := undef) rfl (by kernel_rfl) (by kernel_rfl) (by kernel_rfl) (fun _ _ _ h => h) (Or.inr ⟨by rfl, rfl⟩) (by assumption) ?_
    try simp only [Act.put, List.setIfInBounds_toArray, List.set_cons_zero, List.set_cons_succ]
    refine take_at (i := 12) (v := undef) rfl (by kernel_rfl) (by kernel_rfl) (by kernel_rfl) (fun _ _ _ h => h) (Or.inr ⟨by rfl, rfl⟩) (by assumption) ?_
    try simp only [Act.put, List.setIfInBounds_toArray, List.set_cons_zero, List.set_cons_succ]
    refine take_at (i := 13) (v := undef) rfl (by kernel_rfl) (by kernel_rfl) (by kernel_rfl) (fun _ _ _ h => h) (Or.inr ⟨by rfl, rfl⟩) (by assumption) ?_
    try simp only [Act.put, List.setIfInBounds_toArray, List.set_cons_zero, List.set_cons_succ]
    refine take_at (i := 14) (v := ?_) rfl (by kernel_rfl) (by kernel_rfl) (by kernel_rfl) (fun _ _ _ h => h) (Or.inl ⟨by rfl, ?_⟩) (by assumption) ?_
    rotate_left 1
    · (intro w hSw; (try dsimp only at hSw); go_simp; (try with_reducible rfl))
    try simp only [Act.put, List.setIfInBounds_toArray, List.set_cons_zero, List.set_cons_succ]
    refine take_at (i := 15) (v := ?_) rfl (by kernel_rfl) (by kernel_rfl) (by kernel_rfl) (fun _ _ _ h => h) (Or.inl ⟨by rfl, ?_⟩) (by assumption) ?_
    rotate_left 1
    · (intro w hSw; (try dsimp only at hSw); go_simp; (try with_reducible rfl))
    try simp only [Act.put, List.setIfInBounds_toArray, List.set_cons_zero, List.set_cons_succ]
    refine wpAnyH_done (by kernel_rfl) ?_ _
    refine NoPanic.normal ?_
    go_wp2
    go_ret
    exact ⟨rfl, (Below.refl _ _).drew⟩
  | false =>
    rw [hv] at hd
    go_enter Try.func40, Try.ntmps40
    go_wp2
    go_region_held3 (fun X => X.cell? ⟨h + 1, 0, none⟩ = some (.slice (some ⟨bd, od, none⟩) n cd) ∧ X.cell? ⟨bd, od + i, none⟩ = some (.bool false) ∧ X.cell? ⟨h, 0, none⟩ = some (.slice (some ⟨b, o, none⟩) n c) ∧ X.cell? ⟨b, o + i * 4, none⟩ = some (.slice ta k tc) ∧ X.cell? ⟨h + 1 + 1, 0, none⟩ = some (.func (.func 39) #[] #[.pointer (some ⟨h + 1, 0, none⟩)])) (exact ⟨c1, hd, c0, z0, c2⟩) (first
      | (go_at_call 41; refine (cC _ (Below.refl _ _).drew).mono ?_; rintro e w' ⟨rfl, rfl⟩))
    go_wp2
    go_ret
    exact ⟨rfl, (Below.refl _ _).drew⟩

end Go.Proofs.Ytmjhapkhfelbpaa
