/-
  Which blocks are held, and which count, as sets of numbers; how they lie beside an alloc in memory.
-/
import Derived.Test.YtomjajmjooaegaaAllocBox
import Derived.Test.YtomjajmjooaegaaIntset
import Derived.Deep.SlicePairs
namespace Go.Proofs.Ytomjajmjooaegaa
open Go.RowKit Plain Go.ChangeShapes Go.WideShapes
set_option linter.unusedVariables false

/-! Plain -/

def usedS (m : List Bool) (x : Int) : Bool := decide (10 ≤ x) && (decide (x < m.length) && atB m x.toNat)
def usedF (m : List Bool) (i : Nat) : Bool := decide (10 ≤ i) && atB m i
def howU (m : List Bool) : Nat := howN (usedF m) m.length

theorem usedS_iff {m : List Bool} {x : Int} : usedS m x = true ↔ 10 ≤ x ∧ x < m.length ∧ atB m x.toNat = true := by
  unfold usedS; simp

theorem usedS_nat {m : List Bool} {i : Nat} (h : i < m.length) : usedS m i = usedF m i := by
  unfold usedS usedF
  rw [decide_eq_true (show (i : Int) < m.length by omega), Int.toNat_natCast, Bool.true_and, show decide ((10 : Int) ≤ i) = decide (10 ≤ i) from by rw [decide_eq_decide]; omega]

theorem usedS_set {m : List Bool} {p : Nat} (h10 : 10 ≤ p) (hp : p < m.length) (x : Bool) (y : Int) : usedS (m.set p x) y = if y = p then x else usedS m y := by
  unfold usedS
  rw [List.length_set, atB_setB]
  by_cases e : y = p
  · subst e
    rw [if_pos rfl, Int.toNat_natCast, if_pos ⟨rfl, hp⟩, decide_eq_true (by omega), decide_eq_true (by omega)]; rfl
  · rw [if_neg e]
    by_cases h0 : 10 ≤ y
    · rw [if_neg (fun h => e (by omega))]
    · rw [decide_eq_false h0]; rfl

theorem usedF_set {m : List Bool} {p i : Nat} (h10 : 10 ≤ p) (hp : p < m.length) (x : Bool) : usedF (m.set p x) i = if i = p then x else usedF m i := by
  unfold usedF
  rw [atB_setB]
  by_cases e : i = p
  · subst e
    rw [if_pos rfl, if_pos ⟨rfl, hp⟩, decide_eq_true h10]; rfl
  · rw [if_neg e, if_neg (fun h => e h.1.symm)]

theorem howU_take {m : List Bool} {p : Nat} (h10 : 10 ≤ p) (hp : p < m.length) (hf : usedF m p = false) : howU (m.set p true) = howU m + 1 := by
  unfold howU
  rw [List.length_set]
  refine howN_one hp (by rw [usedF_set h10 hp, if_pos rfl]) hf fun i _ hn => ?_
  rw [usedF_set h10 hp, if_neg hn]

theorem howU_give {m : List Bool} {p : Nat} (h10 : 10 ≤ p) (hp : p < m.length) (hf : usedF m p = true) : howU m = howU (m.set p false) + 1 := by
  unfold howU
  rw [List.length_set]
  refine howN_one hp hf (by rw [usedF_set h10 hp, if_pos rfl]) fun i _ hn => ?_
  rw [usedF_set h10 hp, if_neg hn]

theorem usedS_new (k : Nat) (y : Int) : usedS (newL k) y = false := by
  cases h : usedS (newL k) y with
  | false => rfl
  | true =>
    obtain ⟨h1, h2, h3⟩ := usedS_iff.1 h
    rw [newL_length] at h2
    rw [newL_at (by omega)] at h3
    simp at h3
    omega

theorem howU_new (k : Nat) : howU (newL k) = 0 := by
  unfold howU
  rw [howN_zero]
  intro i hi
  have := usedS_new k i
  rw [usedS_nat hi] at this
  exact this

theorem free_not {b m : List Bool} {p : Nat} (h : freeB b m p = true) : usedS m p = false ∧ usedS b p = false := by
  obtain ⟨h1, h2, h3⟩ := (freeB_iff b m p).1 h
  constructor
  · unfold usedS; rw [Int.toNat_natCast, h2]; simp
  · unfold usedS; rw [Int.toNat_natCast, h3]; simp

theorem give_yes {m : List Bool} {x : Int} (h : usedS m x = true) : giveR m [x] = some (m.set x.toNat false) := by
  obtain ⟨h1, h2, h3⟩ := usedS_iff.1 h
  rw [giveR, if_pos ⟨h1, h2, h3⟩, giveR]

theorem give_no {m : List Bool} {x : Int} (h : usedS m x = false) : giveR m [x] = none := by
  rw [giveR, if_neg]
  intro hh
  rw [usedS_iff.2 hh] at h
  cases h

/-! A range over what is held -/

/-- What has come. -/
def cameS (m : List Bool) (left : Int → Bool) (y : Int) : Bool := usedS m y && !left y
def howC (m : List Bool) (left : Int → Bool) : Nat := howN (fun i => usedF m i && !left i) m.length

theorem howC_le (m : List Bool) (left : Int → Bool) : howC m left ≤ m.length := howN_le _ _

theorem cameS_start (m : List Bool) (y : Int) : cameS m (usedS m) y = false := by unfold cameS; cases usedS m y <;> rfl
theorem howC_start (m : List Bool) : howC m (usedS m) = 0 := by
  unfold howC
  rw [howN_zero]
  intro i hi
  rw [usedS_nat hi]; cases usedF m i <;> rfl

def less (left : Int → Bool) (x : Int) : Int → Bool := fun y => left y && !decide (y = x)

theorem cameS_step {m : List Bool} {left : Int → Bool} {x : Int} (hu : usedS m x = true) (y : Int) : (decide (y = x) || cameS m left y) = cameS m (less left x) y := by
  unfold cameS less
  by_cases e : y = x
  · subst e; rw [hu]; simp
  · rw [decide_eq_false e]; simp

theorem howC_step {m : List Bool} {left : Int → Bool} {x : Int} (hu : usedS m x = true) (hl : left x = true) : howC m (less left x) = howC m left + 1 := by
  obtain ⟨h1, h2, h3⟩ := usedS_iff.1 hu
  obtain ⟨p, rfl⟩ : ∃ p : Nat, x = p := ⟨x.toNat, by omega⟩
  have hp : p < m.length := by omega
  rw [usedS_nat hp] at hu
  unfold howC
  refine howN_one hp ?_ ?_ fun i _ hn => ?_
  · simp [hu, less]
  · rw [hl]; simp
  · simp only [less]
    rw [decide_eq_false (by omega)]; simp

theorem cameS_end {m : List Bool} {left : Int → Bool} (h : ∀ x, wfI x → left x = false) (y : Int) (hy : wfI y) : cameS m left y = usedS m y := by
  unfold cameS; rw [h y hy]; simp

theorem wfI_of {x : Int} (h1 : -9223372036854775808 ≤ x) (h2 : x ≤ 9223372036854775807) : wfI x := by
  unfold wfI
  simp [Lit.wf, IntKind.min, IntKind.max, IntKind.signed, IntKind.bits]
  exact ⟨h1, h2⟩

theorem howC_end {m : List Bool} {left : Int → Bool} (hm : m.length ≤ 2048) (h : ∀ x, wfI x → left x = false) : howC m left = howU m := by
  unfold howC howU
  apply howN_congr
  intro i hi
  rw [h i (wfI_of (by omega) (by omega))]; simp

/-- What still counts when those that have come are struck. -/
def keptS (b m : List Bool) (left : Int → Bool) (y : Int) : Bool := usedS b y && !cameS m left y
def howK (b m : List Bool) (left : Int → Bool) : Nat := howN (fun i => usedF b i && !(usedF m i && !left i)) m.length

theorem keptS_start (b m : List Bool) (y : Int) : keptS b m (usedS m) y = usedS b y := by unfold keptS; rw [cameS_start]; simp
theorem howK_start {b m : List Bool} (h : b.length = m.length) : howK b m (usedS m) = howU b := by
  unfold howK howU
  rw [h]
  apply howN_congr
  intro i hi
  rw [usedS_nat hi]; cases usedF m i <;> simp

theorem keptS_step {b m : List Bool} {left : Int → Bool} {x : Int} (hu : usedS m x = true) (y : Int) : (!decide (y = x) && keptS b m left y) = keptS b m (less left x) y := by
  unfold keptS
  rw [← cameS_step hu y]
  by_cases e : y = x
  · rw [decide_eq_true e]; simp
  · rw [decide_eq_false e]; simp

theorem keptS_at {b m : List Bool} {left : Int → Bool} {x : Int} (hl : left x = true) : keptS b m left x = usedS b x := by unfold keptS cameS; rw [hl]; simp

theorem howK_step {b m : List Bool} {left : Int → Bool} {x : Int} (hlen : b.length = m.length) (hu : usedS m x = true) (hl : left x = true) : (if usedS b x = true then howK b m left - 1 else howK b m left) = howK b m (less left x) := by
  obtain ⟨h1, h2, h3⟩ := usedS_iff.1 hu
  obtain ⟨p, rfl⟩ : ∃ p : Nat, x = p := ⟨x.toNat, by omega⟩
  have hp : p < m.length := by omega
  rw [usedS_nat hp] at hu
  rw [usedS_nat (show p < b.length by omega)]
  by_cases hb : usedF b p = true
  · rw [if_pos hb]
    have : howK b m left = howK b m (less left p) + 1 := by
      unfold howK
      refine howN_one hp ?_ ?_ fun i _ hn => ?_
      · rw [hb, hl]; simp
      · simp [hu, less]
      · simp only [less]
        rw [decide_eq_false (show ¬ (i : Int) = p by omega)]; simp
    omega
  · rw [if_neg hb]
    unfold howK
    apply howN_congr
    intro i _
    by_cases e : i = p
    · subst e
      rw [Bool.eq_false_iff.2 hb]; simp
    · simp only [less]
      rw [decide_eq_false (show ¬ (i : Int) = p by omega)]; simp

theorem keeps_end {b m : List Bool} {left : Int → Bool} (hr : rightA b m = true) (h : ∀ x, wfI x → left x = false) : (freeC b m : Int) = (m.length : Int) - 10 - (howC m left : Nat) - (howK b m left : Nat) := by
  obtain ⟨hl, _, h48, _⟩ := (rightA_iff b m).1 hr
  have hc := free_count hr
  have e1 : howC m left = howN (fun i => decide (10 ≤ i) && atB m i) m.length := howC_end h48 h
  have e2 : howK b m left = howN (fun i => decide (10 ≤ i) && atB b i && !atB m i) m.length := by
    unfold howK
    apply howN_congr
    intro i hi
    rw [h i (wfI_of (by omega) (by omega))]
    unfold usedF
    cases decide (10 ≤ i) <;> cases atB b i <;> cases atB m i <;> rfl
  have e3 : freeC b m = howN (freeB b m) m.length := by unfold freeC; rw [if_pos hr]
  rw [e1, e2, e3]
  omega

/-! In memory -/

theorem IsSet.congr {P : Program} {k e : TypeId} {w : World} {b n c : Nat} {S S' : Int → Bool} (h : IsSet P k e w b n S c) (hs : ∀ x, wfI x → S x = S' x) : IsSet P k e w b n S' c := by
  obtain ⟨D, ho, ht, hr, hc⟩ := h
  exact ⟨D, ho, ht, fun x hx => by rw [← hs x hx]; exact hr x hx, hc⟩

theorem IsRange.congr {P : Program} {k e : TypeId} {w : World} {b r n c cnt : Nat} {S left left' : Int → Bool} (h : IsRange P k e w b r n S left c cnt) (hs : ∀ x, wfI x → left x = left' x) : IsRange P k e w b r n S left' c cnt := by
  obtain ⟨D, L, hg, hr, hl⟩ := h
  exact ⟨D, L, hg, hr, fun x hx => by rw [hl x hx]; exact hs x hx⟩

theorem IsSet.setCell {P : Program} {k e : TypeId} {w : World} {b n c h i : Nat} {S : Int → Bool} (x : IsSet P k e w b n S c) (hn : b ≠ h) (v : Value) : IsSet P k e (w.setCell ⟨h, i, none⟩ v) b n S c :=
  x.block (Below.heap_setCell _ _ _ _ hn)

theorem no_cell {w : World} {b o : Nat} {x : Obj} (h : w.heap[b]? = some x) (hx : ∀ c e f, x ≠ .cells c e f) : w.cell? ⟨b, o, none⟩ = none := by
  unfold World.cell?
  simp only [h]
  cases x <;> first | rfl | exact absurd rfl (hx _ _ _)

theorem IsSet.noCell {P : Program} {k e : TypeId} {w : World} {b n c : Nat} {S : Int → Bool} (x : IsSet P k e w b n S c) (o : Nat) : w.cell? ⟨b, o, none⟩ = none := by
  obtain ⟨D, ⟨es, clock, h, _⟩, _⟩ := x
  exact no_cell h (fun _ _ _ e => by cases e)

theorem IsRange.noCell {P : Program} {k e : TypeId} {w : World} {b r n c cnt : Nat} {S left : Int → Bool} (x : IsRange P k e w b r n S left c cnt) (o : Nat) : w.cell? ⟨r, o, none⟩ = none := by
  obtain ⟨D, L, ⟨es, clock, since, seen, c0, _, _, _, _, h, _⟩, _⟩ := x
  exact no_cell h (fun _ _ _ e => by cases e)

/-- What a map's turn leaves of a row, and of an alloc. -/
theorem IsB.turned {w w' : World} {a : Option Addr} {c k : Nat} {l : List Bool} (h : IsB w a c l) (hg : w.grownBy w' (Option.some k)) (hk : ∀ o, w.cell? ⟨k, o, none⟩ = none) : IsB w' a c l := by
  refine ⟨h.1, h.2.1, fun j x hx => ?_⟩
  obtain ⟨b, o, ha, hlt, hc⟩ := h.2.2 j x hx
  refine ⟨b, o, ha, Nat.lt_of_lt_of_le hlt hg.size, ?_⟩
  refine hg.cell hc fun he => ?_
  have hbk : b = k := Option.some.inj he
  subst hbk
  rw [hk] at hc
  cases hc

theorem Box2.turned {w w' : World} {h k : Nat} {v0 v1 : Value} (b : Box2 w h v0 v1) (hg : w.grownBy w' (some k)) (hn : h ≠ k) : Box2 w' h v0 v1 := by
  have hl := b.lt
  have hb : w'.heap[h]? = w.heap[h]? := hg.block h hl (fun he => hn (Option.some.inj he))
  obtain ⟨⟨c0, c1⟩, f0, f1⟩ := b
  exact ⟨⟨by rw [World.cell?_of_block (w := w) hb]; exact c0, by rw [World.cell?_of_block (w := w) hb]; exact c1⟩, by rw [World.frozen?_of_block (w := w) hb]; exact f0, by rw [World.frozen?_of_block (w := w) hb]; exact f1⟩

theorem AllocAt.turned {V V' : World} {h k : Nat} {a a' : Option Addr} {n c n' c' : Nat} {b m : List Bool} (x : AllocAt V h a n c a' n' c' b m) (hg : V.grownBy V' (some k)) (hk : ∀ o, V.cell? ⟨k, o, none⟩ = none) : AllocAt V' h a n c a' n' c' b m := by
  refine ⟨x.1.turned hg (fun e => ?_), x.2.1.turned hg hk, x.2.2.turned hg hk⟩
  have := x.1.1.1
  rw [e, hk] at this
  cases this

theorem AllocAt.grownNone {V V' : World} {h : Nat} {a a' : Option Addr} {n c n' c' : Nat} {b m : List Bool} (x : AllocAt V h a n c a' n' c' b m) (hg : V.grownBy V' none) : AllocAt V' h a n c a' n' c' b m :=
  x.below ((Below.refl _ _).grown hg (Nat.le_refl _) (fun k hk => by cases hk))

/-! What is done, as it comes in -/

def IsA (w : World) (a : Option Addr) (c : Nat) (xs : List (Int × Int)) : Prop :=
  xs.length ≤ c ∧ c ≤ maxLen ∧ ∀ j p, xs[j]? = some p → ∃ b o, a = some ⟨b, o, none⟩ ∧ b < w.heap.size ∧ w.cell? ⟨b, o + j * 2, none⟩ = some (.int .i64 p.1) ∧ w.cell? ⟨b, o + j * 2 + 1, none⟩ = some (.int .i64 p.2) ∧ wfI p.1 ∧ wfI p.2

theorem open_acts {H : Type} {enc : TypeId × Value → H} {w : World} {r : Reach} {b0 : Nat} {v : Value} {d : DataW H} {p : List MemPlace}
    (hv : Value.okWide Try.prog w r b0 41 v) (h : DataW.Trod enc Try.prog w 0 (fun _ => true) true 41 v d p) :
    ∃ a c xs, v = .slice a xs.length c ∧ IsA w a c xs := by
  obtain ⟨a, len, cap, rfl⟩ := okWide_slice Try.underlying41 hv
  obtain ⟨fuel, hf⟩ := h
  have hf' : DataW.trod enc Try.prog w 0 (fun _ => true) true fuel 41 [.slice a len cap] = some (d, p) := by simpa [Value.cells] using hf
  rcases Deep.open_slice_pairs Try.underlying41 Try.underlying44 (by kernel_rfl) rfl rfl (by kernel_rfl) (by kernel_rfl) hf' with ⟨hcs, _⟩ | ⟨a, l, c, m, n, V0, V1, D0, D1, P0, P1, hcs, _, hl, hm, hmm, _, hcell⟩
  · simp at hcs
    obtain ⟨rfl, rfl, rfl⟩ := hcs
    exact ⟨none, 0, [], rfl, Nat.le_refl _, Nat.zero_le _, fun j p h => by simp at h⟩
  · simp at hcs
    obtain ⟨rfl, rfl, rfl⟩ := hcs
    simp at hmm
    have each : ∀ i, i < m → ∃ p : Int × Int, w.cell? (a.add (i * 2)) = some (.int .i64 p.1) ∧ w.cell? (a.add (i * 2 + 1)) = some (.int .i64 p.2) ∧ wfI p.1 ∧ wfI p.2 := by
      intro i hi
      obtain ⟨h0, h1, g0, g1⟩ := hcell i hi
      obtain ⟨k, hk, _, hkw⟩ := DataW.trod_int (k := .i64) Try.underlying3 g0
      obtain ⟨s, hs, _, hss⟩ := DataW.trod_int (k := .i64) Try.underlying3 g1
      simp at hk hs
      rw [hk] at h0
      rw [hs] at h1
      exact ⟨(k, s), h0, h1, hkw, hss⟩
    obtain ⟨q, hq⟩ := Deep.choose_lt each
    refine ⟨some a, cap, (List.range len).map q, by simp, by simpa using hl, hm, fun j p hp => ?_⟩
    have hj : j < len := by simpa using (List.getElem?_eq_some_iff.1 hp).1
    rw [List.getElem?_map, List.getElem?_range hj] at hp
    obtain rfl : q j = p := Option.some.inj hp
    obtain ⟨h0, h1, h2⟩ := hq j (by omega)
    obtain ⟨b, o, rfl, hb⟩ := spot_none (hq 0 (by omega)).1
    rw [at_add] at h0 h1
    exact ⟨b, o, rfl, hb, h0, by rw [Nat.add_assoc]; exact h1, h2⟩

theorem theIB : IB Try.prog 42 3 4 := ⟨Try.underlying42, Try.underlying3, Try.underlying4, fun w => by kernel_rfl⟩

end Go.Proofs.Ytomjajmjooaegaa
