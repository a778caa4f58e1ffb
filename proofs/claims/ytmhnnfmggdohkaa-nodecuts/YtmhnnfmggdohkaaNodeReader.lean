/-
  The program's own reader of a node's bytes: number and text.
-/
import Derived.Test.YtmhnnfmggdohkaaNodeBuild
import Derived.Test.YtmhnnfmggdohkaaGet
import Derived.Test.YtmhnnfmggdohkaaAnychain
import Derived.Deep.RegionHeld3
namespace Go.Proofs.Ytmhnnfmggdohkaa
open Go.RowKit Plain Anylast
set_option linter.unusedVariables false

/-- What the reader's text answers at a place with an error so far; where it stands then, and the error. -/
def rdS (s : ByteArray) (p e : Int) : ByteArray := if e = 0 then cutS s p else ⟨#[]⟩
def rdP (s : ByteArray) (p e : Int) : Int := if e = 0 then cutT s p else p
def rdE (s : ByteArray) (p e : Int) : Int := if e = 0 then cutE s p else e

/-- The same of its number. -/
def rnR (s : ByteArray) (p e k : Int) : Int := if e = 0 then getR s p k else 0
def rnP (s : ByteArray) (p e k : Int) : Int := if e = 0 then getT s p k else p
def rnE (s : ByteArray) (p e k : Int) : Int := if e = 0 then getE s p k else e

theorem turns_set12 (w : World) (h : Nat) (u1 u2 : Value) : Turns (fun k => k = h) w ((w.drew.setCell ⟨h, 1, none⟩ u1).setCell ⟨h, 2, none⟩ u2) :=
  Turns.setCell (P := fun k => k = h) (Turns.setCell (P := fun k => k = h) (Turns.refl _ _).drew (p := ⟨h, 1, none⟩) rfl u1) (p := ⟨h, 2, none⟩) rfl u2

set_option maxRecDepth 20000 in
set_option maxHeartbeats 1000000 in
/-- The reader's TEXT; the world behind it is known ahead. -/
theorem rtext_any (h : Nat) (s : ByteArray) (p e : Int) (w : World) (b : Box3 w h (.string s) (.int .i64 p) (.int .i64 e)) (hs : s.size ≤ maxLen) :
    ∃ w1, Box3 w1 h (.string s) (.int .i64 (rdP s p e)) (.int .i64 (rdE s p e)) ∧ Turns (fun k => k = h) w w1 ∧ w1.heap.size = w.heap.size ∧
      Calls Try.prog 63 #[.pointer (some ⟨h, 0, none⟩)] w fun r w' => r = .returned (.string (rdS s p e)) ∧ w' = w1 := by
  by_cases he : e = 0
  · subst he
    have e1 : rdS s p 0 = cutS s p := by unfold rdS; rw [if_pos rfl]
    have e2 : rdP s p 0 = cutT s p := by unfold rdP; rw [if_pos rfl]
    have e3 : rdE s p 0 = cutE s p := by unfold rdE; rw [if_pos rfl]
    rw [e1, e2, e3]
    have cC := fun V => cut_any s p V hs
    generalize cutS s p = x at cC
    generalize cutT s p = q at cC
    generalize cutE s p = y at cC
    refine ⟨(w.drew.setCell ⟨h, 1, none⟩ (.int .i64 q)).setCell ⟨h, 2, none⟩ (.int .i64 y), Box3.set12 (w := w.drew) b _ _, turns_set12 w h _ _, by simp, ?_⟩
    clear e1 e2 e3
    obtain ⟨⟨q0, q1, q2⟩, f0, f1, f2⟩ := id b
    go_enter Try.func63, Try.ntmps63
    go_wp2
    go_region_held3 (fun V => V.cell? ⟨h, 0, none⟩ = some (.string s) ∧ V.cell? ⟨h, 1, none⟩ = some (.int .i64 p) ∧ V.heap = w.heap) (exact ⟨q0, q1, rfl⟩) (first
      | (go_at_call 67; refine (cC _).mono ?_; rintro e w' ⟨rfl, rfl⟩))
    go_wp2
    go_ret
    exact ⟨rfl, rfl⟩
  · have e1 : rdS s p e = ⟨#[]⟩ := by unfold rdS; rw [if_neg he]
    have e2 : rdP s p e = p := by unfold rdP; rw [if_neg he]
    have e3 : rdE s p e = e := by unfold rdE; rw [if_neg he]
    rw [e1, e2, e3]
    have he' : (e != 0) = true := by simpa using he
    refine ⟨w, b, Turns.refl _ _, rfl, ?_⟩
    obtain ⟨⟨q0, q1, q2⟩, f0, f1, f2⟩ := id b
    clear e1 e2 e3
    go_enter Try.func63, Try.ntmps63
    go_wp2
    go_ret
    exact ⟨rfl, rfl⟩

set_option maxRecDepth 20000 in
set_option maxHeartbeats 1000000 in
/-- The reader's NUMBER. -/
theorem rnumber_any (h : Nat) (s : ByteArray) (p e k : Int) (w : World) (b : Box3 w h (.string s) (.int .i64 p) (.int .i64 e)) (hs : s.size ≤ maxLen) :
    ∃ w1, Box3 w1 h (.string s) (.int .i64 (rnP s p e k)) (.int .i64 (rnE s p e k)) ∧ Turns (fun k => k = h) w w1 ∧ w1.heap.size = w.heap.size ∧
      Calls Try.prog 51 #[.pointer (some ⟨h, 0, none⟩), .int .i64 k] w fun r w' => r = .returned (.int .i64 (rnR s p e k)) ∧ w' = w1 := by
  by_cases he : e = 0
  · subst he
    have e1 : rnR s p 0 k = getR s p k := by unfold rnR; rw [if_pos rfl]
    have e2 : rnP s p 0 k = getT s p k := by unfold rnP; rw [if_pos rfl]
    have e3 : rnE s p 0 k = getE s p k := by unfold rnE; rw [if_pos rfl]
    rw [e1, e2, e3]
    have cC := fun V => get_any s p k V hs
    generalize getR s p k = x at cC
    generalize getT s p k = q at cC
    generalize getE s p k = y at cC
    refine ⟨(w.drew.setCell ⟨h, 1, none⟩ (.int .i64 q)).setCell ⟨h, 2, none⟩ (.int .i64 y), Box3.set12 (w := w.drew) b _ _, turns_set12 w h _ _, by simp, ?_⟩
    clear e1 e2 e3
    obtain ⟨⟨q0, q1, q2⟩, f0, f1, f2⟩ := id b
    go_enter Try.func51, Try.ntmps51
    go_wp2
    go_region_held3 (fun V => V.cell? ⟨h, 0, none⟩ = some (.string s) ∧ V.cell? ⟨h, 1, none⟩ = some (.int .i64 p)) (exact ⟨q0, q1⟩) (first
      | (go_at_call 62; refine (cC _).mono ?_; rintro e w' ⟨rfl, rfl⟩))
    go_wp2
    go_ret
    exact ⟨rfl, rfl⟩
  · have e1 : rnR s p e k = 0 := by unfold rnR; rw [if_neg he]
    have e2 : rnP s p e k = p := by unfold rnP; rw [if_neg he]
    have e3 : rnE s p e k = e := by unfold rnE; rw [if_neg he]
    rw [e1, e2, e3]
    have he' : (e != 0) = true := by simpa using he
    refine ⟨w, b, Turns.refl _ _, rfl, ?_⟩
    obtain ⟨⟨q0, q1, q2⟩, f0, f1, f2⟩ := id b
    clear e1 e2 e3
    go_enter Try.func51, Try.ntmps51
    go_wp2
    go_ret
    exact ⟨rfl, rfl⟩

/-- Where the reader of a leaf stands behind so many pairs, its error, and what it has. -/
structure RdL where
  p : Int
  e : Int
  ks : List ByteArray
  vs : List ByteArray

def rdLeaf (s : ByteArray) (p e : Int) : Nat → RdL
  | 0 => ⟨p, e, [], []⟩
  | j + 1 =>
    let a := rdLeaf s p e j
    let p1 := rdP s a.p a.e
    let e1 := rdE s a.p a.e
    ⟨rdP s p1 e1, rdE s p1 e1, a.ks ++ [rdS s a.p a.e], a.vs ++ [rdS s p1 e1]⟩

/-- The same of an inner node. -/
structure RdI where
  p : Int
  e : Int
  ks : List ByteArray
  cs : List Int

def rdInn (s : ByteArray) (p e : Int) : Nat → RdI
  | 0 => ⟨rnP s p e 2, rnE s p e 2, [], [rnR s p e 2]⟩
  | j + 1 =>
    let a := rdInn s p e j
    let p1 := rdP s a.p a.e
    let e1 := rdE s a.p a.e
    ⟨rnP s p1 e1 2, rnE s p1 e1 2, a.ks ++ [rdS s a.p a.e], a.cs ++ [rnR s p1 e1 2]⟩

theorem rdLeaf_len (s : ByteArray) (p e : Int) (j : Nat) : (rdLeaf s p e j).ks.length = j ∧ (rdLeaf s p e j).vs.length = j := by
  induction j with
  | zero => exact ⟨rfl, rfl⟩
  | succ j ih => simp [rdLeaf, ih.1, ih.2]

theorem rdInn_len (s : ByteArray) (p e : Int) (j : Nat) : (rdInn s p e j).ks.length = j ∧ (rdInn s p e j).cs.length = j + 1 := by
  induction j with
  | zero => exact ⟨rfl, rfl⟩
  | succ j ih => simp [rdInn, ih.1, ih.2]

theorem cutS_size (s : ByteArray) (p : Int) : (cutS s p).size ≤ s.size := by
  unfold cutS
  split
  · rw [ByteArray.size_extract]; omega
  · exact Nat.zero_le _

theorem rdS_size (s : ByteArray) (p e : Int) : (rdS s p e).size ≤ s.size := by
  unfold rdS
  split
  · exact cutS_size s p
  · exact Nat.zero_le _

theorem rdLeaf_size (s : ByteArray) (p e : Int) (j : Nat) : (∀ x ∈ (rdLeaf s p e j).ks, x.size ≤ s.size) ∧ ∀ x ∈ (rdLeaf s p e j).vs, x.size ≤ s.size := by
  induction j with
  | zero => exact ⟨fun x h => (by cases h), fun x h => (by cases h)⟩
  | succ j ih =>
    simp only [rdLeaf]
    constructor
    · intro x hx
      rcases List.mem_append.1 hx with h | h
      · exact ih.1 x h
      · obtain rfl : x = _ := by simpa using h
        exact rdS_size _ _ _
    · intro x hx
      rcases List.mem_append.1 hx with h | h
      · exact ih.2 x h
      · obtain rfl : x = _ := by simpa using h
        exact rdS_size _ _ _

theorem rdInn_size (s : ByteArray) (p e : Int) (j : Nat) : ∀ x ∈ (rdInn s p e j).ks, x.size ≤ s.size := by
  induction j with
  | zero => exact fun x h => (by cases h)
  | succ j ih =>
    simp only [rdInn]
    intro x hx
    rcases List.mem_append.1 hx with h | h
    · exact ih x h
    · obtain rfl : x = _ := by simpa using h
      exact rdS_size _ _ _

/-- What the operations of a line 'n.X = append(n.X, r.read())' yield, and the worlds. -/
def pushV (h i r H g n cap : Nat) (u x : Value) : Nat → Value
  | 0 => .pointer (some ⟨h, i, none⟩)
  | 1 => u
  | 2 => .pointer (some ⟨r, 0, none⟩)
  | 3 => x
  | 4 => .slice (some ⟨H, 0, none⟩) 1 1
  | 5 => .slice (some ⟨g, 0, none⟩) (n + 1) cap
  | 6 => .pointer (some ⟨h, i, none⟩)
  | _ => undef

def worlds5 (w0 w1 w2 w3 w4 : World) : Nat → World
  | 0 => w0
  | 1 => w1
  | 2 => w2
  | 3 => w3
  | _ => w4

end Go.Proofs.Ytmhnnfmggdohkaa
