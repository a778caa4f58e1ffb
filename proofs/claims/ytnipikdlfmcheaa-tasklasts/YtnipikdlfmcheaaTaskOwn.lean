/-
  Package task: what may be; what is over.
-/
import Derived.Test.YtnipikdlfmcheaaTaskPlain
import Derived.Test.YtnipikdlfmcheaaWaitOwn
import Derived.Test.YtnipikdlfmcheaaBoxL
import Derived.Deep.RegionHeld3
namespace Go.Proofs.Ytnipikdlfmcheaa
open Go.RowKit Plain
set_option linter.unusedVariables false

/-- A task and a state in boxes of their own, behind a call. -/
theorem boxes2 (w : World) (xs ys : List Value) (t1 t2 : TypeId) (h0 : 0 < xs.length) (h1 : 0 < ys.length) {w1 : World} (hb : Below ((w.alloc (.cells xs.toArray t1)).alloc (.cells ys.toArray t2)).heap.size ((w.alloc (.cells xs.toArray t1)).alloc (.cells ys.toArray t2)) w1) :
    BoxL w1 w.heap.size xs ∧ BoxL w1 (w.heap.size + 1) ys ∧ Below w.heap.size w w1 := by
  refine ⟨((boxL_new w xs t1 rfl).alloc _).below hb, (boxL_new _ ys t2 (by simp)).below hb, ?_⟩
  exact Below.tr (((Below.refl w.heap.size w).alloc (Nat.le_refl _) _).alloc (by simp) _) hb

theorem boxes1 (w : World) (ys : List Value) (t2 : TypeId) {w1 : World} (hb : Below (w.alloc (.cells ys.toArray t2)).heap.size (w.alloc (.cells ys.toArray t2)) w1) :
    BoxL w1 w.heap.size ys ∧ Below w.heap.size w w1 :=
  ⟨(boxL_new w ys t2 rfl).below hb, Below.tr ((Below.refl w.heap.size w).alloc (Nat.le_refl _) _) hb⟩

theorem bel2 (w : World) (a b : Obj) : Below w.heap.size w ((w.alloc a).alloc b) := ((Below.refl _ _).alloc (Nat.le_refl _) _).alloc (by simp) _
theorem bel3 (w : World) (a b c : Obj) : Below w.heap.size w (((w.alloc a).alloc b).alloc c) := (bel2 w a b).alloc (by simp; omega) _
theorem bel4 (w : World) (a b c d : Obj) : Below w.heap.size w ((((w.alloc a).alloc b).alloc c).alloc d) := (bel3 w a b c).alloc (by simp; omega) _

theorem empN_iff {k : ByteArray} : k.toList.isEmpty = true ↔ k = ⟨#[]⟩ := by
  rw [ByteArray.toList_eq, List.isEmpty_iff]
  constructor
  · intro h; apply bytes_ext; rw [h]
  · rintro rfl; rfl

theorem empT_true {k : ByteArray} (h : k = ⟨#[]⟩) : k.toList.isEmpty = true := empN_iff.2 h
theorem empT_false {k : ByteArray} (h : ¬ k = ⟨#[]⟩) : k.toList.isEmpty = false := by
  rw [Bool.eq_false_iff]; exact fun hh => h (empN_iff.1 hh)

def timeB (t : Int) : Bool := decide (0 ≤ t ∧ t ≤ 1099511627776)
def tokB (t : Int) : Bool := decide (1 ≤ t ∧ t ≤ 1099511627776)

theorem isTimeT_any (t : Int) (w : World) :
    Calls Try.prog 47 #[.int .i64 t] w fun e w' => e = .returned (.bool (timeB t)) ∧ w = w' := by
  by_cases h : 0 ≤ t
  · by_cases h' : t ≤ 1099511627776
    · have e : Hid (timeB t = true) := decide_eq_true ⟨h, h'⟩
      go_enter Try.func47, Try.ntmps47
      go_wp2
      go_ret
      exact ⟨ret_bool e.out.symm, rfl⟩
    · have e : Hid (timeB t = false) := decide_eq_false (fun x => h' x.2)
      go_enter Try.func47, Try.ntmps47
      go_wp2
      go_ret
      exact ⟨ret_bool e.out.symm, rfl⟩
  · have e : Hid (timeB t = false) := decide_eq_false (fun x => h x.1)
    go_enter Try.func47, Try.ntmps47
    go_wp2
    go_ret
    exact ⟨ret_bool e.out.symm, rfl⟩

theorem isTokenT_any (t : Int) (w : World) :
    Calls Try.prog 34 #[.int .i64 t] w fun e w' => e = .returned (.bool (tokB t)) ∧ w = w' := by
  by_cases h : 1 ≤ t
  · by_cases h' : t ≤ 1099511627776
    · have e : Hid (tokB t = true) := decide_eq_true ⟨h, h'⟩
      go_enter Try.func34, Try.ntmps34
      go_wp2
      go_ret
      exact ⟨ret_bool e.out.symm, rfl⟩
    · have e : Hid (tokB t = false) := decide_eq_false (fun x => h' x.2)
      go_enter Try.func34, Try.ntmps34
      go_wp2
      go_ret
      exact ⟨ret_bool e.out.symm, rfl⟩
  · have e : Hid (tokB t = false) := decide_eq_false (fun x => h x.1)
    go_enter Try.func34, Try.ntmps34
    go_wp2
    go_ret
    exact ⟨ret_bool e.out.symm, rfl⟩

theorem isI_nil (w : World) : IsI w none 0 [] := ⟨Nat.le_refl _, Nat.zero_le _, fun j m hj => by simp at hj⟩

theorem untN_any (now : Int) (w : World) :
    Calls Try.prog 35 #[.int .i64 now, .slice none 0 0] w fun e w' => e = .returned (.int .i64 (untF now [])) ∧ w = w' :=
  waitUntil_any now none 0 0 [] w (isI_nil w) rfl

set_option maxHeartbeats 1000000 in
theorem isOverT_any (i t d k : Int) (r : ByteArray) (now : Int) (w : World) :
    Calls Try.prog 32 #[.agg #[.int .i64 i, .int .i64 t, .int .i64 d, .int .i64 k, .string r], .int .i64 now] w fun e w' => e = .returned (.bool (decide (d ≤ untF now []))) ∧ w' = (w.alloc (.cells #[.int .i64 i, .int .i64 t, .int .i64 d, .int .i64 k, .string r] 26)).drew := by
  have c1 := untN_any now
  generalize untF now [] = u at *
  obtain ⟨W, hW⟩ : ∃ W, W = w.alloc (.cells #[.int .i64 i, .int .i64 t, .int .i64 d, .int .i64 k, .string r] 26) := ⟨_, rfl⟩
  have q2 : W.cell? ⟨w.heap.size, 2, none⟩ = some (.int .i64 d) := by rw [hW]; exact World.cell?_alloc_at _ _ _ _ rfl
  rw [← hW]
  go_enter Try.func32, Try.ntmps32
  go_wp2
  rw [← hW]
  clear hW
  go_region_held3 (fun V => V.cell? ⟨w.heap.size, 2, none⟩ = some (.int .i64 d)) (exact q2) (first
    | (go_at_call 35; refine (c1 _).mono ?_; rintro e w' ⟨rfl, rfl⟩))
  go_wp2
  go_ret
  exact ⟨rfl, rfl⟩

end Go.Proofs.Ytnipikdlfmcheaa
