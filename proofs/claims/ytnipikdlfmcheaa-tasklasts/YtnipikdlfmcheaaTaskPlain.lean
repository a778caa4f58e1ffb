/-
  Plain facts: what is with a task, and what is made of it; its bytes. Nothing of any program.
-/
import Derived.Test.YtnipikdlfmcheaaGnPlain
import Derived.Test.YtnipikdlfmcheaaWaitPlain
namespace Go.Proofs.Ytnipikdlfmcheaa.Plain
open Go.RowKit
set_option linter.unusedVariables false

structure StP where
  i : Int
  t : Int
  d : Int
  k : Int
  r : ByteArray

@[reducible] def vT (s : StP) : Value := .agg #[.int .i64 s.i, .int .i64 s.t, .int .i64 s.d, .int .i64 s.k, .string s.r]

def zeroT : StP := ⟨0, 0, 0, 0, ⟨#[]⟩⟩

def standT (s : StP) : Bool := decide ((0 ≤ s.i ∧ s.i ≤ 5) ∧ (0 ≤ s.t ∧ s.t ≤ 8) ∧ (0 ≤ s.d ∧ s.d ≤ 1099511627776) ∧ ((s.i = 2 → 1 ≤ s.k) ∧ (s.i ≠ 2 → s.k = 0)) ∧ s.k ≤ 1099511627776 ∧ s.r.size ≤ 16 ∧ (s.i ≠ 3 → s.r = ⟨#[]⟩))
theorem standT_iff (s : StP) : standT s = true ↔ ((0 ≤ s.i ∧ s.i ≤ 5) ∧ (0 ≤ s.t ∧ s.t ≤ 8) ∧ (0 ≤ s.d ∧ s.d ≤ 1099511627776) ∧ ((s.i = 2 → 1 ≤ s.k) ∧ (s.i ≠ 2 → s.k = 0)) ∧ s.k ≤ 1099511627776 ∧ s.r.size ≤ 16 ∧ (s.i ≠ 3 → s.r = ⟨#[]⟩)) := by unfold standT; rw [decide_eq_true_iff]

def restT (tr : Int) (s : StP) : Bool := decide (s.t ≤ tr ∧ (s.i = 0 → s.t = 0) ∧ (s.i = 1 → s.t < tr) ∧ (s.i = 2 ∨ s.i = 3 → 1 ≤ s.t) ∧ (s.i = 4 → s.t = tr) ∧ (s.d = 0 ∨ s.i = 1 ∨ s.i = 2))
theorem restT_iff (tr : Int) (s : StP) : restT tr s = true ↔ (s.t ≤ tr ∧ (s.i = 0 → s.t = 0) ∧ (s.i = 1 → s.t < tr) ∧ (s.i = 2 ∨ s.i = 3 → 1 ≤ s.t) ∧ (s.i = 4 → s.t = tr) ∧ (s.d = 0 ∨ s.i = 1 ∨ s.i = 2)) := by unfold restT; rw [decide_eq_true_iff]
def rightT (tr : Int) (s : StP) : Bool := standT s && restT tr s

/-! What is made of it -/

def readyT (s : StP) : StP := if s.i = 0 then ⟨1, s.t, s.d, s.k, s.r⟩ else s
def leaseE (s : StP) (now k : Int) : Int := if 1 ≤ k ∧ k ≤ 1099511627776 then (if s.i = 1 ∧ s.d ≤ untF now [] then 0 else 192) else 1
def leaseT (le : Int) (s : StP) (now k : Int) : StP := if leaseE s now k = 0 then ⟨2, wrap64 (s.t + 1), untF now [le], k, s.r⟩ else zeroT
def heldE (s : StP) : Int := if s.i = 2 then 0 else 191
def beatT (le : Int) (s : StP) (now : Int) : StP := if s.i = 2 then ⟨2, s.t, untF now [le], s.k, s.r⟩ else zeroT
def doneE (s : StP) (x : ByteArray) : Int := if s.i = 2 then (if x.size ≤ 16 then 0 else 1) else 191
def doneT (s : StP) (x : ByteArray) : StP := if s.i = 2 then (if x.size ≤ 16 then ⟨3, s.t, 0, 0, x⟩ else zeroT) else zeroT
def failT (tr wt : Int) (s : StP) (now : Int) : StP := if s.i = 2 then (if s.t < tr then ⟨1, s.t, untF now [afterF wt s.t], 0, s.r⟩ else ⟨4, s.t, 0, 0, s.r⟩) else zeroT
def expireT (tr wt : Int) (s : StP) (now : Int) : StP := if s.i = 2 ∧ s.d ≤ untF now [] then failT tr wt s s.d else s
def cancelT (s : StP) : StP := if s.i = 0 ∨ s.i = 1 ∨ s.i = 2 then ⟨5, s.t, 0, 0, s.r⟩ else s

/-! Its bytes -/

def partsT (s : StP) : List ByteArray := [putS s.i 1, putS s.t 1, putS s.d 6, putS s.k 6, textS s.r]
def bytesT (s : StP) : ByteArray := cat (partsT s)
def putT (s : StP) : ByteArray := if standT s then bytesT s else ⟨#[]⟩
def putET (s : StP) : Int := if standT s then 0 else 1

theorem sixOk {n : Int} (h0 : 0 ≤ n) (h : n ≤ 1099511627776) : putOk n 6 = true := (putOk_iff _ _).2 ⟨by decide, by decide, h0, by show n < 281474976710656; omega⟩

/-- What has been read once so many numbers have been: the place, the first error, the numbers. -/
def p1T (s : ByteArray) : Int := gnP s 0 0 1
def e1T (s : ByteArray) : Int := gnE s 0 0 1
def p2T (s : ByteArray) : Int := gnP s (p1T s) (e1T s) 1
def e2T (s : ByteArray) : Int := gnE s (p1T s) (e1T s) 1
def p3T (s : ByteArray) : Int := gnP s (p2T s) (e2T s) 6
def e3T (s : ByteArray) : Int := gnE s (p2T s) (e2T s) 6
def p4T (s : ByteArray) : Int := gnP s (p3T s) (e3T s) 6
def e4T (s : ByteArray) : Int := gnE s (p3T s) (e3T s) 6
def rawT (s : ByteArray) : StP := ⟨gnR s 0 0 1, gnR s (p1T s) (e1T s) 1, gnR s (p2T s) (e2T s) 6, gnR s (p3T s) (e3T s) 6, cutS s (p4T s)⟩

def gotE (s : ByteArray) : Int := if e4T s = 0 then (if cutE s (p4T s) = 0 then (if cutT s (p4T s) = s.size ∧ standT (rawT s) = true then 0 else 4) else cutE s (p4T s)) else e4T s
def gotT (s : ByteArray) : StP := if gotE s = 0 then rawT s else zeroT

theorem gotE_ok {s : ByteArray} (h : gotE s = 0) : e4T s = 0 ∧ cutE s (p4T s) = 0 ∧ cutT s (p4T s) = s.size ∧ standT (rawT s) = true := by
  unfold gotE at h
  split at h
  · rename_i h1
    split at h
    · rename_i h2
      split at h
      · rename_i h3; exact ⟨h1, h2, h3.1, h3.2⟩
      · cases h
    · rename_i h2; exact absurd h h2
  · rename_i h1; exact absurd h h1

theorem got_back {s : StP} (h : standT s = true) : gotE (bytesT s) = 0 ∧ gotT (bytesT s) = s ∧ (bytesT s).size ≤ 40 := by
  obtain ⟨h1, h2, h3, h4, h5, h6, h7⟩ := (standT_iff s).1 h
  have hk : 0 ≤ s.k := by
    by_cases h2' : s.i = 2
    · have := h4.1 h2'; omega
    · have := h4.2 h2'; omega
  obtain ⟨b, hb⟩ : ∃ b, b = bytesT s := ⟨_, rfl⟩
  have hb' : b = cat [putS s.i 1, putS s.t 1, putS s.d 6, putS s.k 6, textS s.r] := hb
  have o1 := oneOk (n := s.i) h1.1 (by omega)
  have o2 := oneOk (n := s.t) h2.1 (by omega)
  have o3 := sixOk (n := s.d) h3.1 h3.2
  have o4 := sixOk (n := s.k) hk h5
  obtain ⟨a1, a2, a3⟩ := getAtK (k := 1) (s := b) (P := []) (R := [putS s.t 1, putS s.d 6, putS s.k 6, textS s.r]) (n := s.i) (p := 0) (by rw [hb']; rfl) o1 rfl
  obtain ⟨b1, b2, b3⟩ := getAtK (k := 1) (s := b) (P := [putS s.i 1]) (R := [putS s.d 6, putS s.k 6, textS s.r]) (n := s.t) (by rw [hb']; rfl) o2 rfl
  obtain ⟨c1, c2, c3⟩ := getAtK (k := 6) (s := b) (P := [putS s.i 1, putS s.t 1]) (R := [putS s.k 6, textS s.r]) (n := s.d) (by rw [hb']; rfl) o3 rfl
  obtain ⟨d1, d2, d3⟩ := getAtK (k := 6) (s := b) (P := [putS s.i 1, putS s.t 1, putS s.d 6]) (R := [textS s.r]) (n := s.k) (by rw [hb']; rfl) o4 rfl
  obtain ⟨f1, f2, f3⟩ := cutAtD (s := b) (P := [putS s.i 1, putS s.t 1, putS s.d 6, putS s.k 6]) (R := []) (t := s.r) (by rw [hb']; rfl) (by omega) rfl
  simp only [Int.natCast_one, show ((6 : Nat) : Int) = 6 by rfl] at a1 a2 a3 b1 b2 b3 c1 c2 c3 d1 d2 d3
  have x1 : p1T b = ((cat [putS s.i 1]).size : Nat) := by show gnP b 0 0 1 = _; rw [gnP, if_pos rfl, a3]; rfl
  have y1 : e1T b = 0 := by show gnE b 0 0 1 = _; rw [gnE, if_pos rfl, a1]
  have x2 : p2T b = ((cat [putS s.i 1, putS s.t 1]).size : Nat) := by rw [p2T, x1, y1, gnP, if_pos rfl, b3]; rfl
  have y2 : e2T b = 0 := by rw [e2T, x1, y1, gnE, if_pos rfl, b1]
  have x3 : p3T b = ((cat [putS s.i 1, putS s.t 1, putS s.d 6]).size : Nat) := by rw [p3T, x2, y2, gnP, if_pos rfl, c3]; rfl
  have y3 : e3T b = 0 := by rw [e3T, x2, y2, gnE, if_pos rfl, c1]
  have x4 : p4T b = ((cat [putS s.i 1, putS s.t 1, putS s.d 6, putS s.k 6]).size : Nat) := by rw [p4T, x3, y3, gnP, if_pos rfl, d3]; rfl
  have y4 : e4T b = 0 := by rw [e4T, x3, y3, gnE, if_pos rfl, d1]
  have hr : rawT b = s := by
    unfold rawT
    rw [x4, x3, y3, x2, y2, x1, y1, gnR, if_pos rfl, gnR, if_pos rfl, gnR, if_pos rfl, gnR, if_pos rfl, a2, b2, c2, d2, f2]
  have h0 : gotE b = 0 := by
    unfold gotE
    rw [y4, if_pos rfl, x4, f1, if_pos rfl, hr, if_pos]
    refine ⟨?_, h⟩
    rw [f3, hb']
    rfl
  rw [← hb]
  refine ⟨h0, by rw [gotT, if_pos h0, hr], ?_⟩
  have z1 := putS_size o1
  have z2 := putS_size o2
  have z3 := putS_size o3
  have z4 := putS_size o4
  have z5 := textS_size (s := s.r) (by omega)
  rw [hb', cat_size]
  simp
  omega

theorem got_once {s : ByteArray} (h : gotE s = 0) : standT (gotT s) = true ∧ bytesT (gotT s) = s := by
  obtain ⟨h1, h2, h3, h4⟩ := gotE_ok h
  rw [gotT, if_pos h]
  refine ⟨h4, ?_⟩
  obtain ⟨y3, g4⟩ := gn_ok (show gnE s (p3T s) (e3T s) 6 = 0 from h1)
  obtain ⟨y2, g3⟩ := gn_ok (show gnE s (p2T s) (e2T s) 6 = 0 from y3)
  obtain ⟨y1, g2⟩ := gn_ok (show gnE s (p1T s) (e1T s) 1 = 0 from y2)
  have g1 := (gn_ok (show gnE s 0 0 1 = 0 from y1)).2
  obtain ⟨a1, a2, a3⟩ := gn_bytes (s := s) (q := 0) (k := 1) (by omega) (by omega) g1
  simp only [Int.natCast_one, Int.natCast_zero, Nat.zero_add] at a1 a2 a3
  have x1 : p1T s = ((1 : Nat) : Int) := by show gnP s 0 0 1 = _; rw [gnP, if_pos rfl, a1]; rfl
  rw [x1] at g2
  obtain ⟨b1, b2, b3⟩ := gn_bytes (s := s) (q := 1) (k := 1) (by omega) (by omega) g2
  have b1' : getT s ((1 : Nat) : Int) 1 = ((2 : Nat) : Int) := b1
  have x2 : p2T s = ((2 : Nat) : Int) := by rw [p2T, x1, y1, gnP, if_pos rfl, b1']
  rw [x2] at g3
  obtain ⟨c1, c2, c3⟩ := gn_bytes (s := s) (q := 2) (k := 6) (by omega) (by omega) g3
  have c1' : getT s ((2 : Nat) : Int) 6 = ((8 : Nat) : Int) := c1
  have x3 : p3T s = ((8 : Nat) : Int) := by rw [p3T, x2, y2, gnP, if_pos rfl, c1']
  rw [x3] at g4
  obtain ⟨d1, d2, d3⟩ := gn_bytes (s := s) (q := 8) (k := 6) (by omega) (by omega) g4
  have d1' : getT s ((8 : Nat) : Int) 6 = ((14 : Nat) : Int) := d1
  have x4 : p4T s = ((14 : Nat) : Int) := by rw [p4T, x3, y3, gnP, if_pos rfl, d1']
  rw [x4] at h2 h3
  obtain ⟨q, f1, f2, f3, f4, f5, f6⟩ := cut_text (s := s) (p := 14) h2
  have hq : q = s.size := by
    have : ((q : Nat) : Int) = s.size := f1.symm.trans h3
    omega
  have e1 : (rawT s).i = getR s 0 1 := by show gnR s 0 0 1 = _; rw [gnR, if_pos rfl]
  have e2 : (rawT s).t = getR s ((1 : Nat) : Int) 1 := by show gnR s (p1T s) (e1T s) 1 = _; rw [x1, y1, gnR, if_pos rfl]
  have e3 : (rawT s).d = getR s ((2 : Nat) : Int) 6 := by show gnR s (p2T s) (e2T s) 6 = _; rw [x2, y2, gnR, if_pos rfl]
  have e4 : (rawT s).k = getR s ((8 : Nat) : Int) 6 := by show gnR s (p3T s) (e3T s) 6 = _; rw [x3, y3, gnR, if_pos rfl]
  have e5 : (rawT s).r = cutS s ((14 : Nat) : Int) := by show cutS s (p4T s) = _; rw [x4]
  have b3' : putS (getR s ((1 : Nat) : Int) 1) 1 = s.extract 1 2 := b3
  have c3' : putS (getR s ((2 : Nat) : Int) 6) 6 = s.extract 2 8 := c3
  have d3' : putS (getR s ((8 : Nat) : Int) 6) 6 = s.extract 8 14 := d3
  show cat [putS (rawT s).i 1, putS (rawT s).t 1, putS (rawT s).d 6, putS (rawT s).k 6, textS (rawT s).r] = s
  rw [e1, e2, e3, e4, e5, a3, b3', c3', d3', f6, hq]
  rw [show ∀ (A B C D E : ByteArray), [A, B, C, D, E] = [A] ++ ([B] ++ ([C] ++ ([D] ++ [E]))) by intros; rfl, cat_append, cat_append, cat_append, cat_append, cat_one, cat_one, cat_one, cat_one, cat_one]
  rw [extract_join _ _ _ _ (by omega) (by omega), extract_join _ _ _ _ (by omega) (by omega), extract_join _ _ _ _ (by omega) (by omega), extract_join _ _ _ _ (by omega) (by omega), extract_all]

/-! What may be stays so -/

theorem unt_wrap {s : StP} (h : standT s = true) : wrap64 (s.t + 1) = s.t + 1 := by
  have := ((standT_iff s).1 h).2.1
  unfold wrap64
  omega

theorem right_parts {tr : Int} {s : StP} (h : rightT tr s = true) : standT s = true ∧ restT tr s = true := by
  simpa [rightT] using h

theorem right_ready (tr : Int) (h : 1 ≤ tr) : rightT tr ⟨1, 0, 0, 0, ⟨#[]⟩⟩ = true := by
  rw [rightT, Bool.and_eq_true, standT_iff, restT_iff]
  have hz : (⟨#[]⟩ : ByteArray).size = 0 := rfl
  simp
  omega

theorem right_of {tr : Int} {s : StP} (h1 : 0 ≤ s.i ∧ s.i ≤ 5) (h2 : 0 ≤ s.t ∧ s.t ≤ 8) (h3 : 0 ≤ s.d ∧ s.d ≤ 1099511627776) (h4 : (s.i = 2 → 1 ≤ s.k) ∧ (s.i ≠ 2 → s.k = 0)) (h5 : s.k ≤ 1099511627776) (h6 : s.r.size ≤ 16) (h7 : s.i ≠ 3 → s.r = ⟨#[]⟩)
    (g1 : s.t ≤ tr) (g2 : s.i = 0 → s.t = 0) (g3 : s.i = 1 → s.t < tr) (g4 : s.i = 2 ∨ s.i = 3 → 1 ≤ s.t) (g5 : s.i = 4 → s.t = tr) (g6 : s.d = 0 ∨ s.i = 1 ∨ s.i = 2) : rightT tr s = true := by
  rw [rightT, Bool.and_eq_true, standT_iff, restT_iff]
  exact ⟨⟨h1, h2, h3, h4, h5, h6, h7⟩, g1, g2, g3, g4, g5, g6⟩

theorem right_lease {tr le now k : Int} {s : StP} (h8 : tr ≤ 8) (h : rightT tr s = true) (h0 : leaseE s now k = 0) : rightT tr (leaseT le s now k) = true ∧ (leaseT le s now k).t = s.t + 1 ∧ s.i = 1 := by
  obtain ⟨a, b⟩ := right_parts h
  rw [leaseT, if_pos h0, unt_wrap a]
  unfold leaseE at h0
  split at h0
  · rename_i hk
    split at h0
    · rename_i hi
      obtain ⟨h1, h2, h3, h4, h5, h6, h7⟩ := (standT_iff s).1 a
      obtain ⟨g1, g2, g3, g4, g5, g6⟩ := (restT_iff tr s).1 b
      have g3' := g3 hi.1
      have ub := untF_bound now [le]
      have h7' := h7 (by omega)
      refine ⟨right_of ?_ ?_ ?_ ?_ ?_ ?_ ?_ ?_ ?_ ?_ ?_ ?_ ?_, rfl, hi.1⟩ <;> first
        | exact h6
        | exact fun _ => h7'
        | (simp; done)
        | (simp; omega)
        | (simp only []; omega)
    · cases h0
  · cases h0

theorem right_beat {tr le now : Int} {s : StP} (h : rightT tr s = true) (h0 : s.i = 2) : rightT tr (beatT le s now) = true ∧ (beatT le s now).t = s.t := by
  obtain ⟨a, b⟩ := right_parts h
  rw [beatT, if_pos h0]
  obtain ⟨h1, h2, h3, h4, h5, h6, h7⟩ := (standT_iff s).1 a
  obtain ⟨g1, g2, g3, g4, g5, g6⟩ := (restT_iff tr s).1 b
  have ub := untF_bound now [le]
  have h7' := h7 (by omega)
  have h4' := h4.1 h0
  have g4' := g4 (.inl h0)
  refine ⟨right_of ?_ ?_ ?_ ?_ ?_ ?_ ?_ ?_ ?_ ?_ ?_ ?_ ?_, rfl⟩ <;> first
    | exact h6
    | exact fun _ => h7'
    | (simp; done)
    | (simp; omega)
    | (simp only []; omega)

theorem right_done {tr : Int} {x : ByteArray} {s : StP} (h : rightT tr s = true) (h0 : s.i = 2) (hx : x.size ≤ 16) : rightT tr (doneT s x) = true ∧ (doneT s x).t = s.t := by
  obtain ⟨a, b⟩ := right_parts h
  rw [doneT, if_pos h0, if_pos hx]
  obtain ⟨h1, h2, h3, h4, h5, h6, h7⟩ := (standT_iff s).1 a
  obtain ⟨g1, g2, g3, g4, g5, g6⟩ := (restT_iff tr s).1 b
  have g4' := g4 (.inl h0)
  refine ⟨right_of ?_ ?_ ?_ ?_ ?_ ?_ ?_ ?_ ?_ ?_ ?_ ?_ ?_, rfl⟩ <;> first
    | exact hx
    | exact fun hn => absurd rfl hn
    | (simp; done)
    | (simp; omega)
    | (simp only []; omega)

theorem right_fail {tr wt now : Int} {s : StP} (h : rightT tr s = true) (h0 : s.i = 2) : rightT tr (failT tr wt s now) = true ∧ (failT tr wt s now).t = s.t := by
  obtain ⟨a, b⟩ := right_parts h
  rw [failT, if_pos h0]
  obtain ⟨h1, h2, h3, h4, h5, h6, h7⟩ := (standT_iff s).1 a
  obtain ⟨g1, g2, g3, g4, g5, g6⟩ := (restT_iff tr s).1 b
  have h7' := h7 (by omega)
  have ub := untF_bound now [afterF wt s.t]
  have g4' := g4 (.inl h0)
  by_cases hl : s.t < tr
  · rw [if_pos hl]
    refine ⟨right_of ?_ ?_ ?_ ?_ ?_ ?_ ?_ ?_ ?_ ?_ ?_ ?_ ?_, rfl⟩ <;> first
      | exact h6
      | exact fun _ => h7'
      | (simp; done)
      | (simp; omega)
      | (simp only []; omega)
  · rw [if_neg hl]
    refine ⟨right_of ?_ ?_ ?_ ?_ ?_ ?_ ?_ ?_ ?_ ?_ ?_ ?_ ?_, rfl⟩ <;> first
      | exact h6
      | exact fun _ => h7'
      | (simp; done)
      | (simp; omega)
      | (simp only []; omega)

theorem right_expire {tr wt now : Int} {s : StP} (h : rightT tr s = true) : rightT tr (expireT tr wt s now) = true ∧ (expireT tr wt s now).t = s.t ∧ (s.i ≠ 2 → expireT tr wt s now = s) := by
  unfold expireT
  by_cases h0 : s.i = 2 ∧ s.d ≤ untF now []
  · rw [if_pos h0]
    have := right_fail (wt := wt) (now := s.d) h h0.1
    exact ⟨this.1, this.2, fun hn => absurd h0.1 hn⟩
  · rw [if_neg h0]
    exact ⟨h, rfl, fun _ => rfl⟩

theorem right_cancel {tr : Int} {s : StP} (h : rightT tr s = true) : rightT tr (cancelT s) = true ∧ (cancelT s).t = s.t ∧ (¬ (s.i = 0 ∨ s.i = 1 ∨ s.i = 2) → cancelT s = s) := by
  unfold cancelT
  by_cases h0 : s.i = 0 ∨ s.i = 1 ∨ s.i = 2
  · rw [if_pos h0]
    obtain ⟨a, b⟩ := right_parts h
    obtain ⟨h1, h2, h3, h4, h5, h6, h7⟩ := (standT_iff s).1 a
    obtain ⟨g1, g2, g3, g4, g5, g6⟩ := (restT_iff tr s).1 b
    have h7' := h7 (by omega)
    refine ⟨right_of ?_ ?_ ?_ ?_ ?_ ?_ ?_ ?_ ?_ ?_ ?_ ?_ ?_, rfl, fun hn => absurd h0 hn⟩ <;> first
      | exact h6
      | exact fun _ => h7'
      | (simp; done)
      | (simp; omega)
      | (simp only []; omega)
  · rw [if_neg h0]
    exact ⟨h, rfl, fun _ => rfl⟩

end Go.Proofs.Ytnipikdlfmcheaa.Plain
