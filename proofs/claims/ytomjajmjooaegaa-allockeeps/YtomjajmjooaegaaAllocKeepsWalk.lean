/-
  The walk through the statement AllocKeeps.
-/
import Derived.Test.YtomjajmjooaegaaAllocKeep
import Derived.Deep.RegionHeld3
namespace Go.Proofs.Ytomjajmjooaegaa
open Go.RowKit Plain
set_option linter.unusedVariables false

/-- What holds at the head of a round: the alloc in its box, what is held, what counts. -/
def Keeps (V : World) (h mh mc K i : Nat) (a1 : Option Addr) (c1 : Nat) (a2 : Option Addr) (c2 : Nat) (b m : List Bool) (nH nC : Nat) : Prop :=
  AllocAt V h a1 K c1 a2 K c2 b m ∧ (K = b.length ∧ K = m.length ∧ rightA b m = true) ∧ IsSet Try.prog 3 4 V mh nH (usedS m) (howU m) ∧ nH ≤ i ∧ IsSet Try.prog 3 4 V mc nC (usedS b) (howU b)

theorem Keeps.below {V V' : World} {h mh mc K i : Nat} {a1 a2 : Option Addr} {c1 c2 : Nat} {b m : List Bool} {nH nC : Nat} (x : Keeps V h mh mc K i a1 c1 a2 c2 b m nH nC) (hb : Below V.heap.size V V') : Keeps V' h mh mc K i a1 c1 a2 c2 b m nH nC :=
  ⟨x.1.below hb, x.2.1, x.2.2.1.below hb, x.2.2.2.1, x.2.2.2.2.below hb⟩

theorem Keeps.alloc {V : World} {h mh mc K i : Nat} {a1 a2 : Option Addr} {c1 c2 : Nat} {b m : List Bool} {nH nC : Nat} (x : Keeps V h mh mc K i a1 c1 a2 c2 b m nH nC) (o : Obj) : Keeps (V.alloc o) h mh mc K i a1 c1 a2 c2 b m nH nC := x.below ((Below.refl _ _).alloc (Nat.le_refl _) o)

theorem Keeps.more {V : World} {h mh mc K i j : Nat} {a1 a2 : Option Addr} {c1 c2 : Nat} {b m : List Bool} {nH nC : Nat} (x : Keeps V h mh mc K i a1 c1 a2 c2 b m nH nC) (hj : i ≤ j) : Keeps V h mh mc K j a1 c1 a2 c2 b m nH nC :=
  ⟨x.1, x.2.1, x.2.2.1, Nat.le_trans x.2.2.2.1 hj, x.2.2.2.2⟩

/-- Another alloc is stored into the box. -/
theorem keep_store {V w3 : World} {h mh mc K i : Nat} {a1 a2 a3 a4 : Option Addr} {c1 c2 c3 c4 : Nat} {b m b' m' : List Bool} {nH nC : Nat} (x : Keeps V h mh mc K i a1 c1 a2 c2 b m nH nC) (h1 : h ≠ mh) (h2 : h ≠ mc)
    (o3 : OwnT V.heap.size w3 a3 c3 b') (o4 : OwnT V.heap.size w3 a4 c4 m') (hb : Below V.heap.size V w3) :
    Keeps (w3.alloc (.cells #[.slice a3 K c3, .slice a4 K c4] 24)) h mh mc K i a1 c1 a2 c2 b m nH nC ∧
    AllocAt (((w3.alloc (.cells #[.slice a3 K c3, .slice a4 K c4] 24)).setCell ⟨h, 0, none⟩ (.slice a3 K c3)).setCell ⟨h, 1, none⟩ (.slice a4 K c4)) h a3 K c3 a4 K c4 b' m' ∧
    IsSet Try.prog 3 4 (((w3.alloc (.cells #[.slice a3 K c3, .slice a4 K c4] 24)).setCell ⟨h, 0, none⟩ (.slice a3 K c3)).setCell ⟨h, 1, none⟩ (.slice a4 K c4)) mh nH (usedS m) (howU m) ∧
    IsSet Try.prog 3 4 (((w3.alloc (.cells #[.slice a3 K c3, .slice a4 K c4] 24)).setCell ⟨h, 0, none⟩ (.slice a3 K c3)).setCell ⟨h, 1, none⟩ (.slice a4 K c4)) mc nC (usedS b) (howU b) ∧
    ∀ w : World, Below w.heap.size w V → w.heap.size ≤ h → Below w.heap.size w (((w3.alloc (.cells #[.slice a3 K c3, .slice a4 K c4] 24)).setCell ⟨h, 0, none⟩ (.slice a3 K c3)).setCell ⟨h, 1, none⟩ (.slice a4 K c4)) := by
  have hl := x.1.1.lt
  have x3 := (x.below hb).alloc (.cells #[.slice a3 K c3, .slice a4 K c4] 24)
  refine ⟨x3, x3.1.set (o3.alloc _) (o4.alloc _) hl, (x3.2.2.1.setCell (fun e => h1 e.symm) _).setCell (fun e => h1 e.symm) _, (x3.2.2.2.2.setCell (fun e => h2 e.symm) _).setCell (fun e => h2 e.symm) _, fun w hw hh => ?_⟩
  have hw3 := Below.tr hw hb
  exact ((hw3.alloc hw3.size _).setCell (p := ⟨h, 0, none⟩) hh _).setCell (p := ⟨h, 1, none⟩) hh _

theorem right_at {V : World} {h K : Nat} {a a' : Option Addr} {c c' : Nat} {b m : List Bool} (x : AllocAt V h a K c a' K c' b m) (hn : K = b.length) (hn' : K = m.length) (hr : rightA b m = true) :
    Calls Try.prog 13 #[.agg #[.slice a K c, .slice a' K c']] V fun e w' => e = .returned (.bool true) ∧ Below V.heap.size V w' := by
  have := refRight_any a a' c c' K K b m V hn hn' x.2.1 x.2.2
  rw [hr] at this
  exact this

theorem take_none_at {V : World} {h K : Nat} {a a' : Option Addr} {c c' : Nat} {b m : List Bool} (x : AllocAt V h a K c a' K c' b m) (hn : K = b.length) (hn' : K = m.length) (hr : rightA b m = true) (hp : takeP b m = -1) :
    Calls Try.prog 16 #[.agg #[.slice a K c, .slice a' K c']] V fun e w' => ∃ a3 c3 a4 c4, e = .returned (.tuple #[.agg #[.slice a3 0 c3, .slice a4 0 c4], .int .i64 0, .int .i64 60]) ∧ Below V.heap.size V w' := by
  have hE := take_none hr hp
  obtain ⟨g1, g2, g3⟩ := take_err (b := b) (m := m) (by rw [hE]; decide)
  have := take_any a a' c c' K K b m V hn hn' x.2.1 x.2.2
  rw [hE, g1, g2, g3] at this
  exact this.mono fun e w' ⟨a3, c3, a4, c4, k1, k2, k3, k4⟩ => ⟨a3, c3, a4, c4, k1, k4⟩

theorem take_some_at {V : World} {h K p : Nat} {a a' : Option Addr} {c c' : Nat} {b m : List Bool} (x : AllocAt V h a K c a' K c' b m) (hn : K = b.length) (hn' : K = m.length) (hr : rightA b m = true) (hp : takeP b m = p) :
    Calls Try.prog 16 #[.agg #[.slice a K c, .slice a' K c']] V fun e w' => ∃ a3 c3 a4 c4, e = .returned (.tuple #[.agg #[.slice a3 K c3, .slice a4 K c4], .int .i64 p, .int .i64 0]) ∧ OwnT V.heap.size w' a3 c3 b ∧ OwnT V.heap.size w' a4 c4 (m.set p true) ∧ Below V.heap.size V w' := by
  have hE := take_some hr hp
  obtain ⟨g1, g2, g3⟩ := take_ok hE hp
  have := take_any a a' c c' K K b m V hn hn' x.2.1 x.2.2
  rw [hE, g1, g2, g3, List.length_set, ← hn, ← hn'] at this
  exact this

theorem give_none_at {V : World} {h K H : Nat} {q : Int} {a a' : Option Addr} {c c' : Nat} {b m : List Bool} (x : AllocAt V h a K c a' K c' b m) (hn : K = b.length) (hn' : K = m.length) (hr : rightA b m = true) (hq : usedS m q = false) (hH : H = V.heap.size) :
    Calls Try.prog 17 #[.agg #[.slice a K c, .slice a' K c'], .slice (some ⟨H, 0, none⟩) 1 1] (V.alloc (.cells #[.int .i64 q] 3)) fun e w' => ∃ a3 c3 a4 c4, e = .returned (.tuple #[.agg #[.slice a3 0 c3, .slice a4 0 c4], .int .i64 30]) ∧ Below V.heap.size V w' := by
  subst hH
  have hA : Below V.heap.size V (V.alloc (.cells #[.int .i64 q] 3)) := (Below.refl _ _).alloc (Nat.le_refl _) _
  have hE := give_none hr (give_no hq)
  obtain ⟨g1, g2⟩ := give_err (b := b) (m := m) (xs := [q]) (by rw [hE]; decide)
  have := give_any a a' (some ⟨V.heap.size, 0, none⟩) c c' 1 K K 1 b m [q] (V.alloc (.cells #[.int .i64 q] 3)) hn hn' rfl (x.2.1.below hA) (x.2.2.below hA) (isI_one V q)
  rw [hE, g1, g2] at this
  exact this.mono fun e w' ⟨a3, c3, a4, c4, k1, k2, k3, k4⟩ => ⟨a3, c3, a4, c4, k1, Below.tr hA k4⟩

theorem give_some_at {V : World} {h K H : Nat} {q : Int} {a a' : Option Addr} {c c' : Nat} {b m : List Bool} (x : AllocAt V h a K c a' K c' b m) (hn : K = b.length) (hn' : K = m.length) (hr : rightA b m = true) (hq : usedS m q = true) (hH : H = V.heap.size) :
    Calls Try.prog 17 #[.agg #[.slice a K c, .slice a' K c'], .slice (some ⟨H, 0, none⟩) 1 1] (V.alloc (.cells #[.int .i64 q] 3)) fun e w' => ∃ a3 c3 a4 c4, e = .returned (.tuple #[.agg #[.slice a3 K c3, .slice a4 K c4], .int .i64 0]) ∧ OwnT V.heap.size w' a3 c3 b ∧ OwnT V.heap.size w' a4 c4 (m.set q.toNat false) ∧ Below V.heap.size V w' := by
  subst hH
  have hA : Below V.heap.size V (V.alloc (.cells #[.int .i64 q] 3)) := (Below.refl _ _).alloc (Nat.le_refl _) _
  obtain ⟨hE, g1, g2⟩ := give_some hr (give_yes hq)
  have := give_any a a' (some ⟨V.heap.size, 0, none⟩) c c' 1 K K 1 b m [q] (V.alloc (.cells #[.int .i64 q] 3)) hn hn' rfl (x.2.1.below hA) (x.2.2.below hA) (isI_one V q)
  rw [hE, g1, g2, List.length_set, ← hn, ← hn'] at this
  exact this.mono fun e w' ⟨a3, c3, a4, c4, k1, k2, k3, k4⟩ => ⟨a3, c3, a4, c4, k1, k2.mono hA.size, k3.mono hA.size, Below.tr hA k4⟩

theorem commit_at {V : World} {h K : Nat} {a a' : Option Addr} {c c' : Nat} {b m : List Bool} (x : AllocAt V h a K c a' K c' b m) (hn : K = b.length) (hn' : K = m.length) (hr : rightA b m = true) :
    Calls Try.prog 18 #[.agg #[.slice a K c, .slice a' K c']] V fun e w' => ∃ a3 c3 a4 c4, e = .returned (.tuple #[.agg #[.slice a3 K c3, .slice a4 K c4], .int .i64 0]) ∧ OwnT V.heap.size w' a3 c3 m ∧ OwnT V.heap.size w' a4 c4 m ∧ Below V.heap.size V w' := by
  have e1 : commitE b m = 0 := by unfold commitE; rw [if_pos hr]
  have e2 : commitL b m = m := by unfold commitL; rw [if_pos hr]
  have := commit_any a a' c c' K K b m V hn hn' x.2.1 x.2.2
  rw [e1, e2, ← hn'] at this
  exact this

theorem free_at {V : World} {h K : Nat} {a a' : Option Addr} {c c' : Nat} {b m : List Bool} (x : AllocAt V h a K c a' K c' b m) (hn : K = b.length) (hn' : K = m.length) :
    Calls Try.prog 14 #[.agg #[.slice a K c, .slice a' K c']] V fun e w' => e = .returned (.int .i64 (freeC b m)) ∧ Below V.heap.size V w' :=
  free_any a a' c c' K K b m V hn hn' x.2.1 x.2.2

/-- Behind a take that was stored, and noted. -/
theorem keep_took {V U : World} {h mh mc K i p : Nat} {a1 a2 a3 a4 : Option Addr} {c1 c2 c3 c4 : Nat} {b m : List Bool} {nH nC : Nat} {V0 : World} (x : Keeps V0 h mh mc K i a1 c1 a2 c2 b m nH nC) (hf : freeB b m p = true) (n3 : mh ≠ mc)
    (A4 : AllocAt V h a3 K c3 a4 K c4 b (m.set p true)) (sH : IsSet Try.prog 3 4 V mh nH (usedS m) (howU m)) (sC : IsSet Try.prog 3 4 V mc nC (usedS b) (howU b))
    (hS : IsSet Try.prog 3 4 U mh (nH + 1) (fun y => decide (y = (p : Int)) || usedS m y) (if usedS m p = true then howU m else howU m + 1)) (hg : V.grownBy U (some mh)) :
    Keeps U h mh mc K (i + 1) a3 c3 a4 c4 b (m.set p true) (nH + 1) nC := by
  obtain ⟨k1, k2, k3⟩ := x.2.1
  have h10 := free_ten k3 hf
  have hp := ((freeB_iff b m p).1 hf).1
  have hu := (free_not hf).1
  refine ⟨A4.turned hg sH.noCell, ⟨k1, by rw [List.length_set]; exact k2, right_set k3 h10 true⟩, ?_, by have := x.2.2.2.1; omega, sC.grown hg (fun e => n3 (Option.some.inj e).symm)⟩
  rw [hu, if_neg (by decide)] at hS
  rw [usedS_nat hp] at hu
  rw [howU_take h10 hp hu]
  refine hS.congr fun y _ => ?_
  rw [usedS_set h10 hp]
  by_cases e : y = p
  · rw [if_pos e, decide_eq_true e]; rfl
  · rw [if_neg e, decide_eq_false e]; rfl

/-- Behind a give that was stored, and noted. -/
theorem keep_gave {V U : World} {h mh mc K i : Nat} {q : Int} {a1 a2 a3 a4 : Option Addr} {c1 c2 c3 c4 : Nat} {b m : List Bool} {nH nC : Nat} {V0 : World} (x : Keeps V0 h mh mc K i a1 c1 a2 c2 b m nH nC) (hq : usedS m q = true) (n3 : mh ≠ mc)
    (A4 : AllocAt V h a3 K c3 a4 K c4 b (m.set q.toNat false)) (sH : IsSet Try.prog 3 4 V mh nH (usedS m) (howU m)) (sC : IsSet Try.prog 3 4 V mc nC (usedS b) (howU b))
    (hS : IsSet Try.prog 3 4 U mh nH (fun y => !decide (y = q) && usedS m y) (if usedS m q = true then howU m - 1 else howU m)) (hg : V.grownBy U (some mh)) :
    Keeps U h mh mc K (i + 1) a3 c3 a4 c4 b (m.set q.toNat false) nH nC := by
  obtain ⟨k1, k2, k3⟩ := x.2.1
  obtain ⟨h1, h2, h3⟩ := usedS_iff.1 hq
  obtain ⟨p, rfl⟩ : ∃ p : Nat, q = p := ⟨q.toNat, by omega⟩
  rw [Int.toNat_natCast] at A4 ⊢
  have h10 : 10 ≤ p := by omega
  have hp : p < m.length := by omega
  refine ⟨A4.turned hg sH.noCell, ⟨k1, by rw [List.length_set]; exact k2, right_set k3 h10 false⟩, ?_, by have := x.2.2.2.1; omega, sC.grown hg (fun e => n3 (Option.some.inj e).symm)⟩
  rw [if_pos hq] at hS
  have hu := hq
  rw [usedS_nat hp] at hu
  have := howU_give h10 hp hu
  rw [show howU m - 1 = howU (m.set p false) by omega] at hS
  refine hS.congr fun y _ => ?_
  rw [usedS_set h10 hp]
  by_cases e : y = p
  · rw [if_pos e, decide_eq_true e]; rfl
  · rw [if_neg e, decide_eq_false e]; rfl

set_option maxRecDepth 20000 in
set_option maxHeartbeats 8000000 in
theorem allocKeeps_walk (z : Int) (ap : Option Addr) (cp : Nat) (xs : List (Int × Int)) (w : World) (wz : (Lit.int .i64 z).wf = true) (hA : IsA w ap cp xs) :
    Calls Try.prog 6 #[.int .i64 z, .slice ap xs.length cp] w fun e w' => e = .returned (.bool true) ∧ Below w.heap.size w w' := by
  obtain ⟨y, hy⟩ : ∃ y : Int, max z 24 = y := ⟨_, rfl⟩
  obtain ⟨K, hK⟩ : ∃ K : Nat, min y 200 = K := ⟨(min y 200).toNat, by omega⟩
  have mr1 := max_run hy
  have mr2 := min_run hK
  have K1 : 24 ≤ K := by omega
  have K2 : K ≤ 200 := by omega
  have hmay := mayB_yes (k := K) (mayB_iff.2 (by omega))
  obtain ⟨k, hk⟩ : ∃ k, k = xs.length := ⟨_, rfl⟩
  have hkb : k ≤ 9223372036854775807 := by rw [hk]; exact Nat.le_trans hA.1 hA.2.1
  have HA : Hid (IsA w ap cp xs) := hA
  have HK : Hid (k = xs.length) := hk
  have cn : Calls Try.prog 8 #[.int .i64 K] w fun e w' => ∃ a1 c1 a2 c2, e = .returned (.tuple #[.agg #[.slice a1 K c1, .slice a2 K c2], .int .i64 0]) ∧ IsB w' a1 c1 (newL K) ∧ IsB w' a2 c2 (newL K) ∧ Below w.heap.size w w' := by
    have := new_any K w
    rw [hmay.1, hmay.2, newL_length] at this
    exact this.mono fun e w' ⟨a1, c1, a2, c2, h1, h2, h3, h4⟩ => ⟨a1, c1, a2, c2, h1, h2.isB, h3.isB, h4⟩
  have hmm := @run_makeMap Try.prog
  rw [← hk]
  clear hy hK hmay hA hk wz
  go_enter Try.func6, Try.ntmps6
  go_wp2_with (first
    | (go_at_call 8; refine cn.mono ?_; rintro e w1 ⟨a1, c1, a2, c2, rfl, k1, k2, HB⟩; have hWh := HB.size; have A := AllocAt.new (n := K) (n' := K) k1 k2 24; replace HB := HB.alloc HB.size (.cells #[.slice a1 K c1, .slice a2 K c2] 24); clear cn k1 k2)
    | (go_at_call 11; refine (alive_any _).mono ?_; rintro e w2 ⟨rfl, hb⟩; replace HB := Below.tr HB hb; replace A := A.below hb; clear hb))
  have hlw := HB.size
  have hh1 := A.1.lt
  have X0 : Keeps ((w2.alloc (.map #[] 0)).alloc (.map #[] 0)) w1.heap.size w2.heap.size (w2.heap.size + 1) K 0 a1 c1 a2 c2 (newL K) (newL K) 0 0 := by
    refine ⟨(A.alloc _).alloc _, ⟨(newL_length K).symm, (newL_length K).symm, newL_right K1 (by omega)⟩, ?_, Nat.le_refl _, ?_⟩
    · rw [howU_new]
      exact ((set_made Try.prog 3 4 w2).congr (fun x _ => (usedS_new K x).symm)).below ((Below.refl _ _).alloc (Nat.le_refl _) _)
    · rw [howU_new]
      have := (set_made Try.prog 3 4 (w2.alloc (.map #[] 0))).congr (fun x _ => (usedS_new K x).symm)
      rw [show (w2.alloc (.map #[] 0)).heap.size = w2.heap.size + 1 by simp] at this
      exact this
  have HB0 : Below w.heap.size w ((w2.alloc (.map #[] 0)).alloc (.map #[] 0)) := (HB.alloc HB.size _).alloc (by simp; omega) _
  obtain ⟨mh, hmh⟩ : ∃ mh, mh = w2.heap.size := ⟨_, rfl⟩
  obtain ⟨mc, hmc⟩ : ∃ mc, mc = w2.heap.size + 1 := ⟨_, rfl⟩
  obtain ⟨h, hh⟩ : ∃ h, h = w1.heap.size := ⟨_, rfl⟩
  rw [← hmc, ← hmh, ← hh] at X0 ⊢
  have n1 : h ≠ mh := by omega
  have n2 : h ≠ mc := by omega
  have n3 : mh ≠ mc := by omega
  have n4 : w.heap.size ≤ mh := by omega
  have n5 : w.heap.size ≤ mc := by omega
  have n6 : w.heap.size ≤ h := by rw [hh]; exact hWh
  generalize (w2.alloc (.map #[] 0)).alloc (.map #[] 0) = W3 at X0 HB0 ⊢
  clear hmh hmc hh A HB hlw hh1 hWh
  go_loopw [38] (fun v wr => ∃ (i : Nat) (a1 : Option Addr) (c1 : Nat) (a2 : Option Addr) (c2 : Nat) (b m : List Bool) (nH nC : Nat), i ≤ k ∧ i ≤ 100 ∧ v = .int .i64 i ∧ Keeps wr h mh mc K i a1 c1 a2 c2 b m nH nC ∧ Below w.heap.size w wr) (fun v _ => k - (intOf v).toNat)
  case atStart => exact ⟨0, a1, c1, a2, c2, newL K, newL K, 0, 0, by omega, by omega, rfl, X0, HB0⟩
  case round =>
    obtain ⟨i, a1, c1, a2, c2, b, m, nH, nC, hi, hi1, rfl, X, hbel⟩ := hrel
    by_cases hlt : i < k
    · have hlt' : (i : Int) < k := by omega
      obtain ⟨pq, hpq⟩ : ∃ p, Hid (xs[i]? = some p) := ⟨_, List.getElem?_eq_getElem (by rw [← HK.out]; exact hlt)⟩
      obtain ⟨bb, oo, rfl, hbb, hc1, hc2, wf1, wf2⟩ := HA.out.2.2 i pq hpq.out
      replace hc1 := cell_below hbel hc1
      replace hc2 := cell_below hbel hc2
      obtain ⟨e, q⟩ := pq
      simp only at hc1 hc2 wf1 wf2
      have V1 := X.alloc (.cells #[.int .i64 e, .int .i64 q] 44)
      have B1 : Below w.heap.size w (wr.alloc (.cells #[.int .i64 e, .int .i64 q] 44)) := hbel.alloc hbel.size _
      by_cases h100 : i < 100
      · have h100' : ¬ (100 : Int) ≤ i := by omega
        obtain ⟨kb, km, kr⟩ := X.2.1
        have kl : b.length = m.length := by omega
        obtain ⟨⟨⟨q0, q1⟩, -, -⟩, -⟩ := id V1.1
        clear mr1 mr2 hmm X0 HB0
        by_cases e0 : e = 0
        · subst e0
          rcases takeP_spec kl with ⟨hp, -⟩ | ⟨p, hp, hpl, hf, -⟩
          · have cT := take_none_at V1.1 kb km kr hp
            clear kb km kl
            go_wp2_with (go_at_call 16; refine cT.mono ?_; rintro e w3 ⟨a3, c3, a4, c4, rfl, hb⟩)
            go_roundw
            case rel => exact ⟨i + 1, a1, c1, a2, c2, b, m, nH, nC, by omega, by omega, by go_num, ((V1.below hb).alloc _).more (by omega), (Below.tr B1 hb).alloc (Below.tr B1 hb).size _⟩
            case measure => simp [intOf]; omega
          · have cT := take_some_at V1.1 kb km kr hp
            have h10 := free_ten kr hf
            have h10' : ¬ (p : Int) < 10 := by omega
            have hwp : wfI p := wfI_of (by omega) (by omega)
            have hnH := X.2.2.2.1
            clear kb km kl
            go_wp2_with (first
              | (go_at_call 16; refine cT.mono ?_; rintro e w3 ⟨a3, c3, a4, c4, rfl, o3, o4, hb⟩; obtain ⟨y0, A4, s1, s2, hB4⟩ := keep_store V1 n1 n2 o3 o4 hb; have l1 := y0.2.2.1.lookup theIB hwp; have l2 := y0.2.2.2.2.lookup theIB hwp; rw [(free_not hf).1] at l1; rw [(free_not hf).2] at l2; obtain ⟨⟨⟨r0, r1⟩, f0, f1⟩, -⟩ := id y0.1; clear o3 o4 hb)
              | (at_mapUpdate; refine wpList_set_store _ theIB rfl _ _ _ rfl rfl s1 (by unfold maxLen; omega) _ rfl rfl hwp ?_; intro w5 hS5 hg5; have X5 := keep_took V1 hf n3 A4 s1 s2 hS5 hg5; have B5 := (hB4 w B1 n6).grown hg5 (hB4 w B1 n6).size (fun j hj => by cases hj; exact n4); obtain ⟨⟨⟨t0, t1⟩, -, -⟩, -⟩ := id X5.1; clear hS5 hg5 A4 s1 s2)
              | (go_at_call 13; refine (right_at X5.1 X5.2.1.1 X5.2.1.2.1 X5.2.1.2.2).mono ?_; rintro e w6 ⟨rfl, hb6⟩))
            go_roundw
            case rel => exact ⟨i + 1, a3, c3, a4, c4, b, m.set p true, nH + 1, nC, by omega, by omega, by go_num, X5.below hb6, Below.tr B5 hb6⟩
            case measure => simp [intOf]; omega
        · have e0' : (e == 0) = false := by rw [beq_eq_false_iff_ne]; exact e0
          by_cases e1 : e = 1
          · subst e1
            have xq : (wr.alloc (.cells #[.int .i64 1, .int .i64 q] 44)).cell? ⟨wr.heap.size, 1, none⟩ = some (.int .i64 q) := World.cell?_alloc_at _ _ _ _ rfl
            have hne : h ≠ wr.heap.size := by have := X.1.1.lt; omega
            cases hq : usedS m q with
            | false =>
              have cG := give_none_at (H := wr.heap.size + 1) V1.1 kb km kr hq (by simp)
              clear kb km kl e0 e0'
              go_wp2_with (go_at_call 17; refine cG.mono ?_; rintro e w3 ⟨a3, c3, a4, c4, rfl, hb⟩; have x3 := cell_alloc (cell_below hb xq); have l1 := ((V1.below hb).alloc (.cells #[.slice a3 0 c3, .slice a4 0 c4] 24)).2.2.1.lookup theIB wf2; rw [hq] at l1)
              go_roundw
              case rel => exact ⟨i + 1, a1, c1, a2, c2, b, m, nH, nC, by omega, by omega, by go_num, ((V1.below hb).alloc _).more (by omega), (Below.tr B1 hb).alloc (Below.tr B1 hb).size _⟩
              case measure => simp [intOf]; omega
            | true =>
              have cG := give_some_at (H := wr.heap.size + 1) V1.1 kb km kr hq (by simp)
              clear kb km kl e0 e0'
              go_wp2_with (first
                | (go_at_call 17; refine cG.mono ?_; rintro e w3 ⟨a3, c3, a4, c4, rfl, o3, o4, hb⟩; obtain ⟨y0, A4, s1, s2, hB4⟩ := keep_store V1 n1 n2 o3 o4 hb; have x3 := cell_alloc (cell_below hb xq) (.cells #[.slice a3 K c3, .slice a4 K c4] 24); have l1 := y0.2.2.1.lookup theIB wf2; rw [hq] at l1; obtain ⟨⟨⟨r0, r1⟩, f0, f1⟩, -⟩ := id y0.1; have x4 : (((w3.alloc (.cells #[.slice a3 K c3, .slice a4 K c4] 24)).setCell ⟨h, 0, none⟩ (.slice a3 K c3)).setCell ⟨h, 1, none⟩ (.slice a4 K c4)).cell? ⟨wr.heap.size, 1, none⟩ = some (.int .i64 q) := (by rw [World.cell?_setCell_other _ _ _ _ (fun hh => hne (congrArg Addr.block hh)), World.cell?_setCell_other _ _ _ _ (fun hh => hne (congrArg Addr.block hh))]; exact x3); clear o3 o4 hb)
                | (at_delete; refine wpList_set_drop _ theIB rfl _ _ rfl rfl s1 _ rfl wf2 ?_; intro w5 hS5 hg5; have X5 := keep_gave V1 hq n3 A4 s1 s2 hS5 hg5; have B5 := (hB4 w B1 n6).grown hg5 (hB4 w B1 n6).size (fun j hj => by cases hj; exact n4); obtain ⟨⟨⟨t0, t1⟩, -, -⟩, -⟩ := id X5.1; clear hS5 hg5 A4 s1 s2)
                | (go_at_call 13; refine (right_at X5.1 X5.2.1.1 X5.2.1.2.1 X5.2.1.2.2).mono ?_; rintro e w6 ⟨rfl, hb6⟩))
              go_roundw
              case rel => exact ⟨i + 1, a3, c3, a4, c4, b, m.set q.toNat false, nH, nC, by omega, by omega, by go_num, X5.below hb6, Below.tr B5 hb6⟩
              case measure => simp [intOf]; omega
          · have e1' : (e == 1) = false := by rw [beq_eq_false_iff_ne]; exact e1
            have cC := commit_at V1.1 kb km kr
            have hnH := X.2.2.2.1
            have HM : Hid (K = m.length ∧ rightA m m = true) := ⟨km, right_commit kr⟩
            clear kb km kl e0 e1
            go_wp2_with (first
              | (go_at_call 18; refine cC.mono ?_; rintro e w3 ⟨a3, c3, a4, c4, rfl, o3, o4, hb⟩; obtain ⟨y0, A4, s1, s2, hB4⟩ := keep_store V1 n1 n2 o3 o4 hb; obtain ⟨⟨⟨r0, r1⟩, f0, f1⟩, -⟩ := id y0.1; have B4 := hB4 w B1 n6; obtain ⟨w5, hcl, hS5, hg5⟩ := s2.clear theIB 0; have A5 := A4.turned hg5 s2.noCell; have s5 := s1.grown hg5 (fun e => n3 (Option.some.inj e)); have B5 := B4.grown hg5 B4.size (fun j hj => by cases hj; exact n5); clear o3 o4 hb hB4 y0 hg5 A4 s1 s2 B4)
              | (at_range; refine wpList_set_range _ theIB rfl _ rfl rfl s5 ?_; intro w6 hR6 hg6 hs6; have A6 := A5.grownNone hg6; have C6 := hS5.grown hg6 (by simp); have B6 := B5.grown hg6 B5.size (fun j hj => by cases hj)))
            try go_frame
            have hr1 : w5.heap.size ≠ mc := by have := hS5.lt; omega
            have hr2 : w5.heap.size ≠ mh := by have := s5.lt; omega
            have hr3 : w.heap.size ≤ w5.heap.size := B5.size
            generalize w5.heap.size = r at hR6 hr1 hr2 hr3 ⊢
            clear A5 hS5 s5 B5 hg6 hs6
            go_loopw [18] (fun _ wq => ∃ (left : Int → Bool) (cnt : Nat), IsRange Try.prog 3 4 wq mh r nH (usedS m) left (howU m) cnt ∧ IsSet Try.prog 3 4 wq mc (howC m left) (cameS m left) (howC m left) ∧ AllocAt wq h a3 K c3 a4 K c4 m m ∧ Below w.heap.size w wq) (fun _ wq => wq.rangeLeft mh r)
            case atStart =>
              refine ⟨usedS m, howU m, hR6, ?_, A6, B6⟩
              rw [howC_start]
              exact C6.congr fun x _ => (cameS_start m x).symm
            case round =>
              obtain ⟨left, cnt, hR, hC, hA, hbq⟩ := hrel
              go_wp2_with (at_next; refine wpList_set_next _ theIB rfl _ rfl rfl hR ?_ ?_)
              · intro hc0 hl0
                obtain ⟨⟨⟨t0, t1⟩, -, -⟩, -⟩ := id hA
                go_wp2_with (go_at_call 13; refine (right_at hA HM.out.1 HM.out.1 HM.out.2).mono ?_; rintro e w6 ⟨rfl, hb6⟩)
                go_roundw
                case rel =>
                  refine ⟨i + 1, a3, c3, a4, c4, m, m, nH, howC m left, by omega, by omega, by go_num, ?_, Below.tr hbq hb6⟩
                  refine ⟨hA.below hb6, ⟨HM.out.1, HM.out.1, HM.out.2⟩, hR.isSet.below hb6, by omega, ?_⟩
                  have h2 := (hC.below hb6).congr (S' := usedS m) fun x hx => cameS_end hl0 x hx
                  rw [← howC_end (by rw [← HM.out.1]; omega) hl0]
                  exact h2
                case measure => simp [intOf]; omega
              · intro x w7 cnt7 hwx hlx hSx hR7 hlt7 hg7 hs7 hen
                have hC7 := hC.grown hg7 (fun e => hr1 (Option.some.inj e).symm)
                have hA7 := hA.turned hg7 hR.noCell
                have hcb : howC m left < maxLen := by have := howC_le m left; rw [← HM.out.1] at this; unfold maxLen; omega
                have hB7 := hbq.grown hg7 hbq.size (fun j hj => by cases hj; exact hr3)
                go_wp2_with (at_mapUpdate; refine wpList_set_store _ theIB rfl _ _ _ rfl rfl hC7 hcb _ rfl rfl hwx ?_; intro w8 hS8 hg8; go_frame)
                have hR8 : IsRange Try.prog 3 4 w8 mh r nH (usedS m) (less left x) (howU m) cnt7 := hR7.grown hg8 (fun e => n3 (Option.some.inj e)) (fun e => hr1 (Option.some.inj e))
                go_roundw
                case rel =>
                  refine ⟨less left x, cnt7, hR8, ?_, hA7.turned hg8 hC7.noCell, hB7.grown hg8 hB7.size (fun j hj => by cases hj; exact n5)⟩
                  rw [howC_step hSx hlx]
                  have hx0 : cameS m left x = false := by unfold cameS; rw [hlx]; simp
                  rw [hx0, if_neg (by decide)] at hS8
                  exact hS8.congr fun y _ => cameS_step hSx y
                case measure => rw [hR8.left_eq, hR.left_eq]; exact hlt7
      · have h100' : (100 : Int) ≤ i := by omega
        obtain ⟨r, hgRR⟩ : ∃ r, wr.heap.size + 1 = r := ⟨_, rfl⟩
        have hwRR : (wr.alloc (.cells #[.int .i64 e, .int .i64 q] 44)).heap.size = r := by simpa using hgRR
        replace X := V1
        replace hbel := B1
        clear V1 B1
        obtain ⟨kb, km, kr⟩ := X.2.1
        go_wp2_with (at_range; refine wpList_set_range _ theIB rfl _ rfl rfl X.2.2.1 ?_; intro w5 hR5 hg5 hs5)
        go_frame
        rw [hwRR] at hR5 hs5
        first | rw [hgRR] | rw [hwRR]
        have hr1 : r ≠ mc := by have := X.2.2.2.2.lt; rw [hwRR] at this; omega
        have hr3 : w.heap.size ≤ r := by have := hbel.size; rw [hwRR] at this; exact this
        have A5 := X.1.grownNone hg5
        have C5 := X.2.2.2.2.grown hg5 (by simp)
        have B5 := hbel.grown hg5 hbel.size (fun j hj => by cases hj)
        have HM : Hid (K = b.length ∧ K = m.length ∧ rightA b m = true ∧ b.length = m.length) := ⟨kb, km, kr, by omega⟩
        clear X hbel hg5 hs5 kb km kr hwRR hgRR
        go_loopw [19] (fun u wq => ∃ (left : Int → Bool) (cnt : Nat), u = .int .i64 (howC m left) ∧ IsRange Try.prog 3 4 wq mh r nH (usedS m) left (howU m) cnt ∧ IsSet Try.prog 3 4 wq mc nC (keptS b m left) (howK b m left) ∧ AllocAt wq h a1 K c1 a2 K c2 b m ∧ Below w.heap.size w wq) (fun _ wq => wq.rangeLeft mh r)
        case atStart =>
          refine ⟨usedS m, howU m, by rw [howC_start]; rfl, hR5, ?_, A5, B5⟩
          rw [howK_start HM.out.2.2.2]
          exact C5.congr fun x _ => (keptS_start b m x).symm
        case round =>
          obtain ⟨left, cnt, rfl, hR, hC, hA, hbq⟩ := hrel
          go_wp2_with (at_next; refine wpList_set_next _ theIB rfl _ rfl rfl hR ?_ ?_)
          · intro hc0 hl0
            have hend := keeps_end HM.out.2.2.1 hl0
            rw [← HM.out.2.1] at hend
            have cF := fun V (hV : Below wr.heap.size wr V) => free_at (hA.below hV) HM.out.1 HM.out.2.1
            obtain ⟨FF, hFF⟩ : ∃ FF, FF = freeC b m := ⟨_, rfl⟩
            obtain ⟨UU, hUU⟩ : ∃ UU, UU = howC m left := ⟨_, rfl⟩
            obtain ⟨QQ, hQQ⟩ : ∃ QQ, QQ = howK b m left := ⟨_, rfl⟩
            rw [← hFF] at hend cF
            rw [← hUU] at hend ⊢
            rw [← hQQ] at hend hC
            have i1 : IntKind.i64.wrap ((K : Int) - 10) = (K : Int) - 10 := i64_in _ (by omega) (by omega)
            have i2 : IntKind.i64.wrap ((K : Int) - 10 - UU) = (K : Int) - 10 - UU := i64_in _ (by omega) (by omega)
            have i3 : IntKind.i64.wrap ((K : Int) - 10 - UU - QQ) = (K : Int) - 10 - UU - QQ := i64_in _ (by omega) (by omega)
            have i4 : ((FF : Int) == (K : Int) - 10 - UU - QQ) = true := by rw [hend]; simp
            have HU : Below wr.heap.size wr wr.drew := (Below.refl _ _).drew
            clear hFF hUU hQQ hend
            go_wp2
            go_region_held3 (fun V => V.cell? ⟨h, 0, none⟩ = some (.slice a1 K c1) ∧ V.cell? ⟨h, 1, none⟩ = some (.slice a2 K c2) ∧ (Builtin.len_ #[42] 3 #[.map (some mc)]).run Try.prog V = .ok (.int .i64 QQ) V) (exact ⟨(hA.below HU).1.1.1, (hA.below HU).1.1.2, (hC.below HU).len theIB 3⟩)
              (first | (go_at_call 14; refine (cF _ HU).mono ?_; rintro e w9 ⟨rfl, hb⟩; replace HU := Below.tr HU hb; clear hb))
            go_wp2
            go_ret
            exact ⟨rfl, Below.tr hbq HU⟩
          · intro x w7 cnt7 hwx hlx hSx hR7 hlt7 hg7 hs7 hen
            have hC7 := hC.grown hg7 (fun e => hr1 (Option.some.inj e).symm)
            have hA7 := hA.turned hg7 hR.noCell
            have hcb : howC m left ≤ 200 := by have := howC_le m left; rw [← HM.out.2.1] at this; omega
            have hB7 := hbq.grown hg7 hbq.size (fun j hj => by cases hj; exact hr3)
            go_wp2_with (at_delete; refine wpList_set_drop _ theIB rfl _ _ rfl rfl hC7 _ rfl hwx ?_; intro w8 hS8 hg8; go_frame)
            have hR8 : IsRange Try.prog 3 4 w8 mh r nH (usedS m) (less left x) (howU m) cnt7 := hR7.grown hg8 (fun e => n3 (Option.some.inj e)) (fun e => hr1 (Option.some.inj e))
            go_roundw
            case rel =>
              refine ⟨less left x, cnt7, by rw [howC_step hSx hlx]; go_num, hR8, ?_, hA7.turned hg8 hC7.noCell, hB7.grown hg8 hB7.size (fun j hj => by cases hj; exact n5)⟩
              rw [keptS_at hlx, howK_step HM.out.2.2.2 hSx hlx] at hS8
              exact hS8.congr fun y _ => keptS_step hSx y
            case measure => rw [hR8.left_eq, hR.left_eq]; exact hlt7
    · obtain rfl : i = k := by omega
      obtain ⟨r, hwRR⟩ : ∃ r, wr.heap.size = r := ⟨_, rfl⟩
      have hgRR : wr.heap.size = r := hwRR
      obtain ⟨kb, km, kr⟩ := X.2.1
      go_wp2_with (at_range; refine wpList_set_range _ theIB rfl _ rfl rfl X.2.2.1 ?_; intro w5 hR5 hg5 hs5)
      go_frame
      rw [hwRR] at hR5 hs5
      first | rw [hgRR] | rw [hwRR]
      have hr1 : r ≠ mc := by have := X.2.2.2.2.lt; rw [hwRR] at this; omega
      have hr3 : w.heap.size ≤ r := by have := hbel.size; rw [hwRR] at this; exact this
      have A5 := X.1.grownNone hg5
      have C5 := X.2.2.2.2.grown hg5 (by simp)
      have B5 := hbel.grown hg5 hbel.size (fun j hj => by cases hj)
      have HM : Hid (K = b.length ∧ K = m.length ∧ rightA b m = true ∧ b.length = m.length) := ⟨kb, km, kr, by omega⟩
      clear X hbel hg5 hs5 kb km kr hwRR hgRR
      go_loopw [19] (fun u wq => ∃ (left : Int → Bool) (cnt : Nat), u = .int .i64 (howC m left) ∧ IsRange Try.prog 3 4 wq mh r nH (usedS m) left (howU m) cnt ∧ IsSet Try.prog 3 4 wq mc nC (keptS b m left) (howK b m left) ∧ AllocAt wq h a1 K c1 a2 K c2 b m ∧ Below w.heap.size w wq) (fun _ wq => wq.rangeLeft mh r)
      case atStart =>
        refine ⟨usedS m, howU m, by rw [howC_start]; rfl, hR5, ?_, A5, B5⟩
        rw [howK_start HM.out.2.2.2]
        exact C5.congr fun x _ => (keptS_start b m x).symm
      case round =>
        obtain ⟨left, cnt, rfl, hR, hC, hA, hbq⟩ := hrel
        go_wp2_with (at_next; refine wpList_set_next _ theIB rfl _ rfl rfl hR ?_ ?_)
        · intro hc0 hl0
          have hend := keeps_end HM.out.2.2.1 hl0
          rw [← HM.out.2.1] at hend
          have cF := fun V (hV : Below wr.heap.size wr V) => free_at (hA.below hV) HM.out.1 HM.out.2.1
          obtain ⟨FF, hFF⟩ : ∃ FF, FF = freeC b m := ⟨_, rfl⟩
          obtain ⟨UU, hUU⟩ : ∃ UU, UU = howC m left := ⟨_, rfl⟩
          obtain ⟨QQ, hQQ⟩ : ∃ QQ, QQ = howK b m left := ⟨_, rfl⟩
          rw [← hFF] at hend cF
          rw [← hUU] at hend ⊢
          rw [← hQQ] at hend hC
          have i1 : IntKind.i64.wrap ((K : Int) - 10) = (K : Int) - 10 := i64_in _ (by omega) (by omega)
          have i2 : IntKind.i64.wrap ((K : Int) - 10 - UU) = (K : Int) - 10 - UU := i64_in _ (by omega) (by omega)
          have i3 : IntKind.i64.wrap ((K : Int) - 10 - UU - QQ) = (K : Int) - 10 - UU - QQ := i64_in _ (by omega) (by omega)
          have i4 : ((FF : Int) == (K : Int) - 10 - UU - QQ) = true := by rw [hend]; simp
          have HU : Below wr.heap.size wr wr.drew := (Below.refl _ _).drew
          clear hFF hUU hQQ hend
          go_wp2
          go_region_held3 (fun V => V.cell? ⟨h, 0, none⟩ = some (.slice a1 K c1) ∧ V.cell? ⟨h, 1, none⟩ = some (.slice a2 K c2) ∧ (Builtin.len_ #[42] 3 #[.map (some mc)]).run Try.prog V = .ok (.int .i64 QQ) V) (exact ⟨(hA.below HU).1.1.1, (hA.below HU).1.1.2, (hC.below HU).len theIB 3⟩)
            (first | (go_at_call 14; refine (cF _ HU).mono ?_; rintro e w9 ⟨rfl, hb⟩; replace HU := Below.tr HU hb; clear hb))
          go_wp2
          go_ret
          exact ⟨rfl, Below.tr hbq HU⟩
        · intro x w7 cnt7 hwx hlx hSx hR7 hlt7 hg7 hs7 hen
          have hC7 := hC.grown hg7 (fun e => hr1 (Option.some.inj e).symm)
          have hA7 := hA.turned hg7 hR.noCell
          have hcb : howC m left ≤ 200 := by have := howC_le m left; rw [← HM.out.2.1] at this; omega
          have hB7 := hbq.grown hg7 hbq.size (fun j hj => by cases hj; exact hr3)
          go_wp2_with (at_delete; refine wpList_set_drop _ theIB rfl _ _ rfl rfl hC7 _ rfl hwx ?_; intro w8 hS8 hg8; go_frame)
          have hR8 : IsRange Try.prog 3 4 w8 mh r nH (usedS m) (less left x) (howU m) cnt7 := hR7.grown hg8 (fun e => n3 (Option.some.inj e)) (fun e => hr1 (Option.some.inj e))
          go_roundw
          case rel =>
            refine ⟨less left x, cnt7, by rw [howC_step hSx hlx]; go_num, hR8, ?_, hA7.turned hg8 hC7.noCell, hB7.grown hg8 hB7.size (fun j hj => by cases hj; exact n5)⟩
            rw [keptS_at hlx, howK_step HM.out.2.2.2 hSx hlx] at hS8
            exact hS8.congr fun y _ => keptS_step hSx y
          case measure => rw [hR8.left_eq, hR.left_eq]; exact hlt7

end Go.Proofs.Ytomjajmjooaegaa
