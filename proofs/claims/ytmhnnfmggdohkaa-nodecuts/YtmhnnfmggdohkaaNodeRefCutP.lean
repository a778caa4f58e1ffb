/-
  Two nodes that Cut builds: what they take on.
-/
import Derived.Test.YtmhnnfmggdohkaaNodePair
namespace Go.Proofs.Ytmhnnfmggdohkaa
open Go.RowKit Plain
set_option linter.unusedVariables false

theorem take_more {α : Type} {xs : List α} {j : Nat} {x : α} (hx : xs[j]? = some x) : xs.take (j + 1) = xs.take j ++ [x] := by rw [List.take_add_one, hx]; rfl
theorem fst_more {α : Type} {xs : List α} {j m : Nat} {x : α} (hx : xs[j]? = some x) (h : j < m) : (xs.take (j + 1)).take m = (xs.take j).take m ++ [x] := by
  rw [List.take_take, List.take_take, Nat.min_eq_right (by omega), Nat.min_eq_right (by omega)]; exact take_more hx
theorem fst_same {α : Type} (xs : List α) {j m : Nat} (h : m ≤ j) : (xs.take (j + 1)).take m = (xs.take j).take m := by
  rw [List.take_take, List.take_take, Nat.min_eq_left (by omega), Nat.min_eq_left (by omega)]
theorem snd_more {α : Type} {xs : List α} {j d : Nat} {x : α} (hx : xs[j]? = some x) (h : d ≤ j) : (xs.take (j + 1)).drop d = (xs.take j).drop d ++ [x] := by
  have hl := (List.getElem?_eq_some_iff.1 hx).1
  rw [take_more hx, List.drop_append_of_le_length (by rw [List.length_take]; omega)]
theorem snd_same {α : Type} (xs : List α) {j d : Nat} (h : j < d) : (xs.take (j + 1)).drop d = (xs.take j).drop d := by
  rw [List.drop_eq_nil_of_le (by rw [List.length_take]; omega), List.drop_eq_nil_of_le (by rw [List.length_take]; omega)]
theorem fst_len {α : Type} (xs : List α) (j m : Nat) : ((xs.take j).take m).length ≤ xs.length := by simp only [List.length_take]; omega
theorem snd_len {α : Type} (xs : List α) (j d : Nat) : ((xs.take j).drop d).length ≤ xs.length := by simp only [List.length_drop, List.length_take]; omega

/-- Two nodes under building behind the boxes of Cut. -/
structure Cut3 (w V : World) (l : Bool) (t1 t2 t3 u1 u2 u3 : Value) (xs ys : List ByteArray) (zs : List Int) (v1 v2 v3 : Value) (xs' ys' : List ByteArray) (zs' : List Int) : Prop where
  p : Pair V (w.heap.size + 3) (w.heap.size + 4) (w.heap.size + 5) l u1 u2 u3 xs ys zs v1 v2 v3 xs' ys' zs'
  b : Box4 V w.heap.size (.bool l) t1 t2 t3
  b1 : Box4 V (w.heap.size + 1) (.bool false) (.slice none 0 0) (.slice none 0 0) (.slice none 0 0)
  b2 : Box4 V (w.heap.size + 2) (.bool false) (.slice none 0 0) (.slice none 0 0) (.slice none 0 0)
  lo : Below w.heap.size w V

theorem Cut3.pushA1 {w V : World} {l : Bool} {t1 t2 t3 u1 u2 u3 : Value} {xs ys : List ByteArray} {zs : List Int} {v1 v2 v3 : Value} {xs' ys' : List ByteArray} {zs' : List Int} (q : Cut3 w V l t1 t2 t3 u1 u2 u3 xs ys zs v1 v2 v3 xs' ys' zs') (x : ByteArray) (hl : xs.length ≤ 4096) :
    ∃ g cap w', (Builtin.append_ #[22, 22] 22 #[u1, .slice (some ⟨V.heap.size, 0, none⟩) 1 1]).run Try.prog (V.alloc (.cells #[.string x] 9)) = .ok (.slice (some ⟨g, 0, none⟩) (xs.length + 1) cap) w' ∧ Box4 w' (w.heap.size + 3) (.bool l) u1 u2 u3 ∧
      Cut3 w (w'.setCell ⟨w.heap.size + 3, 1, none⟩ (.slice (some ⟨g, 0, none⟩) (xs.length + 1) cap)) l t1 t2 t3 (.slice (some ⟨g, 0, none⟩) (xs.length + 1) cap) u2 u3 (xs ++ [x]) ys zs v1 v2 v3 xs' ys' zs' := by
  obtain ⟨g, cap, w', hrun, hb, p, T⟩ := q.p.push1 x hl
  exact ⟨g, cap, w', hrun, hb, p, q.b.turns T (by rintro (h | h) <;> omega), q.b1.turns T (by rintro (h | h) <;> omega), q.b2.turns T (by rintro (h | h) <;> omega), Below.turns q.lo T (fun k hk => by rcases hk with h | h <;> omega)⟩

theorem Cut3.pushC1 {w V : World} {l : Bool} {t1 t2 t3 u1 u2 u3 : Value} {xs ys : List ByteArray} {zs : List Int} {v1 v2 v3 : Value} {xs' ys' : List ByteArray} {zs' : List Int} (q : Cut3 w V l t1 t2 t3 u1 u2 u3 xs ys zs v1 v2 v3 xs' ys' zs') (x : ByteArray) (hl : xs'.length ≤ 4096) :
    ∃ g cap w', (Builtin.append_ #[22, 22] 22 #[v1, .slice (some ⟨V.heap.size, 0, none⟩) 1 1]).run Try.prog (V.alloc (.cells #[.string x] 9)) = .ok (.slice (some ⟨g, 0, none⟩) (xs'.length + 1) cap) w' ∧ Box4 w' (w.heap.size + 4) (.bool l) v1 v2 v3 ∧
      Cut3 w (w'.setCell ⟨w.heap.size + 4, 1, none⟩ (.slice (some ⟨g, 0, none⟩) (xs'.length + 1) cap)) l t1 t2 t3 u1 u2 u3 xs ys zs (.slice (some ⟨g, 0, none⟩) (xs'.length + 1) cap) v2 v3 (xs' ++ [x]) ys' zs' := by
  obtain ⟨g, cap, w', hrun, hb, p, T⟩ := q.p.symm.push1 x hl
  exact ⟨g, cap, w', hrun, hb, p.symm, q.b.turns T (by rintro (h | h) <;> omega), q.b1.turns T (by rintro (h | h) <;> omega), q.b2.turns T (by rintro (h | h) <;> omega), Below.turns q.lo T (fun k hk => by rcases hk with h | h <;> omega)⟩

theorem Cut3.pushA2 {w V : World} {l : Bool} {t1 t2 t3 u1 u2 u3 : Value} {xs ys : List ByteArray} {zs : List Int} {v1 v2 v3 : Value} {xs' ys' : List ByteArray} {zs' : List Int} (q : Cut3 w V l t1 t2 t3 u1 u2 u3 xs ys zs v1 v2 v3 xs' ys' zs') (x : ByteArray) (hl : ys.length ≤ 4096) :
    ∃ g cap w', (Builtin.append_ #[22, 22] 22 #[u2, .slice (some ⟨V.heap.size, 0, none⟩) 1 1]).run Try.prog (V.alloc (.cells #[.string x] 9)) = .ok (.slice (some ⟨g, 0, none⟩) (ys.length + 1) cap) w' ∧ Box4 w' (w.heap.size + 3) (.bool l) u1 u2 u3 ∧
      Cut3 w (w'.setCell ⟨w.heap.size + 3, 2, none⟩ (.slice (some ⟨g, 0, none⟩) (ys.length + 1) cap)) l t1 t2 t3 u1 (.slice (some ⟨g, 0, none⟩) (ys.length + 1) cap) u3 xs (ys ++ [x]) zs v1 v2 v3 xs' ys' zs' := by
  obtain ⟨g, cap, w', hrun, hb, p, T⟩ := q.p.push2 x hl
  exact ⟨g, cap, w', hrun, hb, p, q.b.turns T (by rintro (h | h) <;> omega), q.b1.turns T (by rintro (h | h) <;> omega), q.b2.turns T (by rintro (h | h) <;> omega), Below.turns q.lo T (fun k hk => by rcases hk with h | h <;> omega)⟩

theorem Cut3.pushC2 {w V : World} {l : Bool} {t1 t2 t3 u1 u2 u3 : Value} {xs ys : List ByteArray} {zs : List Int} {v1 v2 v3 : Value} {xs' ys' : List ByteArray} {zs' : List Int} (q : Cut3 w V l t1 t2 t3 u1 u2 u3 xs ys zs v1 v2 v3 xs' ys' zs') (x : ByteArray) (hl : ys'.length ≤ 4096) :
    ∃ g cap w', (Builtin.append_ #[22, 22] 22 #[v2, .slice (some ⟨V.heap.size, 0, none⟩) 1 1]).run Try.prog (V.alloc (.cells #[.string x] 9)) = .ok (.slice (some ⟨g, 0, none⟩) (ys'.length + 1) cap) w' ∧ Box4 w' (w.heap.size + 4) (.bool l) v1 v2 v3 ∧
      Cut3 w (w'.setCell ⟨w.heap.size + 4, 2, none⟩ (.slice (some ⟨g, 0, none⟩) (ys'.length + 1) cap)) l t1 t2 t3 u1 u2 u3 xs ys zs v1 (.slice (some ⟨g, 0, none⟩) (ys'.length + 1) cap) v3 xs' (ys' ++ [x]) zs' := by
  obtain ⟨g, cap, w', hrun, hb, p, T⟩ := q.p.symm.push2 x hl
  exact ⟨g, cap, w', hrun, hb, p.symm, q.b.turns T (by rintro (h | h) <;> omega), q.b1.turns T (by rintro (h | h) <;> omega), q.b2.turns T (by rintro (h | h) <;> omega), Below.turns q.lo T (fun k hk => by rcases hk with h | h <;> omega)⟩

theorem Cut3.pushA3 {w V : World} {l : Bool} {t1 t2 t3 u1 u2 u3 : Value} {xs ys : List ByteArray} {zs : List Int} {v1 v2 v3 : Value} {xs' ys' : List ByteArray} {zs' : List Int} (q : Cut3 w V l t1 t2 t3 u1 u2 u3 xs ys zs v1 v2 v3 xs' ys' zs') (x : Int) (hl : zs.length ≤ 4096) :
    ∃ g cap w', (Builtin.append_ #[23, 23] 23 #[u3, .slice (some ⟨V.heap.size, 0, none⟩) 1 1]).run Try.prog (V.alloc (.cells #[.int .i64 x] 3)) = .ok (.slice (some ⟨g, 0, none⟩) (zs.length + 1) cap) w' ∧ Box4 w' (w.heap.size + 3) (.bool l) u1 u2 u3 ∧
      Cut3 w (w'.setCell ⟨w.heap.size + 3, 3, none⟩ (.slice (some ⟨g, 0, none⟩) (zs.length + 1) cap)) l t1 t2 t3 u1 u2 (.slice (some ⟨g, 0, none⟩) (zs.length + 1) cap) xs ys (zs ++ [x]) v1 v2 v3 xs' ys' zs' := by
  obtain ⟨g, cap, w', hrun, hb, p, T⟩ := q.p.push3 x hl
  exact ⟨g, cap, w', hrun, hb, p, q.b.turns T (by rintro (h | h) <;> omega), q.b1.turns T (by rintro (h | h) <;> omega), q.b2.turns T (by rintro (h | h) <;> omega), Below.turns q.lo T (fun k hk => by rcases hk with h | h <;> omega)⟩

theorem Cut3.pushC3 {w V : World} {l : Bool} {t1 t2 t3 u1 u2 u3 : Value} {xs ys : List ByteArray} {zs : List Int} {v1 v2 v3 : Value} {xs' ys' : List ByteArray} {zs' : List Int} (q : Cut3 w V l t1 t2 t3 u1 u2 u3 xs ys zs v1 v2 v3 xs' ys' zs') (x : Int) (hl : zs'.length ≤ 4096) :
    ∃ g cap w', (Builtin.append_ #[23, 23] 23 #[v3, .slice (some ⟨V.heap.size, 0, none⟩) 1 1]).run Try.prog (V.alloc (.cells #[.int .i64 x] 3)) = .ok (.slice (some ⟨g, 0, none⟩) (zs'.length + 1) cap) w' ∧ Box4 w' (w.heap.size + 4) (.bool l) v1 v2 v3 ∧
      Cut3 w (w'.setCell ⟨w.heap.size + 4, 3, none⟩ (.slice (some ⟨g, 0, none⟩) (zs'.length + 1) cap)) l t1 t2 t3 u1 u2 u3 xs ys zs v1 v2 (.slice (some ⟨g, 0, none⟩) (zs'.length + 1) cap) xs' ys' (zs' ++ [x]) := by
  obtain ⟨g, cap, w', hrun, hb, p, T⟩ := q.p.symm.push3 x hl
  exact ⟨g, cap, w', hrun, hb, p.symm, q.b.turns T (by rintro (h | h) <;> omega), q.b1.turns T (by rintro (h | h) <;> omega), q.b2.turns T (by rintro (h | h) <;> omega), Below.turns q.lo T (fun k hk => by rcases hk with h | h <;> omega)⟩

/-- Two nodes that are answered, with a key between them. -/
def Answers3 (w : World) (x : Ending) (w' : World) (l : Bool) (ks vs : List ByteArray) (cs : List Int) (mid : ByteArray) (ks2 vs2 : List ByteArray) (cs2 : List Int) : Prop :=
  ∃ n a d n' a' d' n'' a'' d'' m e f m' e' f' m'' e'' f'', x = .returned (.tuple #[.agg #[.bool l, .slice a n d, .slice a' n' d', .slice a'' n'' d''], .string mid, .agg #[.bool l, .slice e m f, .slice e' m' f', .slice e'' m'' f'']]) ∧
    n = ks.length ∧ n' = vs.length ∧ n'' = cs.length ∧ m = ks2.length ∧ m' = vs2.length ∧ m'' = cs2.length ∧
    IsS w' a d ks ∧ IsS w' a' d' vs ∧ IsI w' a'' d'' cs ∧ IsS w' e f ks2 ∧ IsS w' e' f' vs2 ∧ IsI w' e'' f'' cs2 ∧ Below w.heap.size w w'

end Go.Proofs.Ytmhnnfmggdohkaa
