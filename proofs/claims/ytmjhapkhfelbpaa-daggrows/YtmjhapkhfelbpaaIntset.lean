/-
  A set of numbers: a map[int]bool that the call itself has made, all of whose elements are true. Told by which numbers it has and how many; over any program.
-/
import Derived.Test.YtmjhapkhfelbpaaRows
import Derived.Maps.RangeWalk
import Derived.Maps.OwnSet
import Derived.Below
namespace Go.Proofs.Ytmjhapkhfelbpaa
open Go.Maps (Keyed)
open Go.RowKit
set_option linter.unusedVariables false

def wfI (x : Int) : Prop := (Lit.int .i64 x).wf = true

/-- t is the type map[int]bool. -/
def IB (P : Program) (t k e : TypeId) : Prop := P.underlying t = some (.map k e) ∧ P.underlying k = some (.int .i64) ∧ P.underlying e = some .bool ∧ ∀ w : World, (zeroValue e).run P w = .ok (.bool false) w

theorem plainElem_bool_inv {H : Type} {P : Program} {e : TypeId} (he : P.underlying e = some .bool) {v : Value} {z : DataW H × List MemPlace} (h : plainElem P e v = some z) : ∃ x, v = .bool x ∧ z = (.lit (.bool x), []) := by
  unfold plainElem at h
  rw [he] at h
  cases v <;> simp at h
  exact ⟨_, rfl, h.symm⟩

/-- The map reads as the set S. -/
def Reads (D : DataW Unit) (S : Int → Bool) (c : Nat) : Prop :=
  Maps.Tidy D ∧ (∀ x, wfI x → Maps.has D (.int .i64 x) = S x ∧ D.atKey (.int .i64 x) (.lit (.bool false)) = .lit (.bool (S x))) ∧ Maps.size D = c

def IsSet (P : Program) (k e : TypeId) (w : World) (b n : Nat) (S : Int → Bool) (c : Nat) : Prop :=
  ∃ D : DataW Unit, w.ownsMap P k (plainElem P e) b n D ∧ Reads D S c

theorem key_lit (x : Int) : WideAt.IsKeyLit (.int .i64 x) := trivial

theorem lit_ne {x y : Int} (h : x ≠ y) : (Lit.int .i64 x) ≠ (.int .i64 y) := fun hh => h (by cases hh; rfl)

theorem Reads.put {D : DataW Unit} {S : Int → Bool} {c : Nat} (h : Reads D S c) {x : Int} (hx : wfI x) : Reads (D.put (.int .i64 x) (.lit (.bool true))) (fun y => decide (y = x) || S y) (if S x = true then c else c + 1) := by
  obtain ⟨ht, hr, hc⟩ := h
  refine ⟨ht.put (key_lit x) _, fun y hy => ?_, ?_⟩
  · by_cases e : y = x
    · subst e
      rw [Maps.has_put_same ht.isMap (key_lit y), Maps.atKey_put_same ht.isMap (key_lit y)]
      simp
    · rw [Maps.has_put_other (lit_ne e), Maps.atKey_put_other (lit_ne e)]
      simp only [decide_eq_false e, Bool.false_or]
      exact hr y hy
  · rw [Maps.size_put ht, (hr x hx).1, hc]

theorem Reads.del {D : DataW Unit} {S : Int → Bool} {c : Nat} (h : Reads D S c) {x : Int} (hx : wfI x) : Reads (D.del (.int .i64 x)) (fun y => !decide (y = x) && S y) (if S x = true then c - 1 else c) := by
  obtain ⟨ht, hr, hc⟩ := h
  refine ⟨ht.del _, fun y hy => ?_, ?_⟩
  · by_cases e : y = x
    · subst e
      rw [Maps.has_del_same, Maps.atKey_del_same]
      simp
    · rw [Maps.has_del_other (lit_ne e), Maps.atKey_del_other (lit_ne e)]
      simp only [decide_eq_false e, Bool.not_false, Bool.true_and]
      exact hr y hy
  · have := Maps.size_del (k := .int .i64 x) ht
    rw [(hr x hx).1, hc] at this
    split at this <;> rename_i hs
    · rw [if_pos hs]; omega
    · rw [if_neg hs]; omega

theorem set_made (P : Program) (k e : TypeId) (w : World) : IsSet P k e (w.alloc (.map #[] 0)) w.heap.size 0 (fun _ => false) 0 :=
  ⟨.map [], World.ownsMap_made w P k _, Maps.tidy_empty, fun x _ => ⟨rfl, rfl⟩, rfl⟩

theorem IsSet.lt {P : Program} {k : TypeId} {e : TypeId} {w : World} {b : Nat} {n : Nat} {c : Nat} {S : Int → Bool} (h : IsSet P k e w b n S c) : b < w.heap.size := by
  obtain ⟨D, ho, _⟩ := h
  exact ho.lt

theorem IsSet.block {P : Program} {k : TypeId} {e : TypeId} {w : World} {b : Nat} {n : Nat} {c : Nat} {S : Int → Bool} {w' : World} (h : IsSet P k e w b n S c) (hb : w'.heap[b]? = w.heap[b]?) : IsSet P k e w' b n S c := by
  obtain ⟨D, ⟨es, clock, h1, h2⟩, hr⟩ := h
  exact ⟨D, ⟨es, clock, hb.trans h1, h2⟩, hr⟩

theorem IsSet.below {P : Program} {k : TypeId} {e : TypeId} {w : World} {b : Nat} {n : Nat} {c : Nat} {S : Int → Bool} {w' : World} (h : IsSet P k e w b n S c) (hb : Below w.heap.size w w') : IsSet P k e w' b n S c := h.block (hb.block b h.lt)

theorem IsSet.grown {P : Program} {k : TypeId} {e : TypeId} {w : World} {b : Nat} {n : Nat} {c : Nat} {S : Int → Bool} {w' : World} {row : Option Nat} (h : IsSet P k e w b n S c) (hg : w.grownBy w' row) (hne : some b ≠ row) : IsSet P k e w' b n S c := by
  obtain ⟨D, ho, hr⟩ := h
  exact ⟨D, ho.kept hg hne, hr⟩

theorem IsSet.mono {P : Program} {k : TypeId} {e : TypeId} {w : World} {b : Nat} {n : Nat} {c : Nat} {S : Int → Bool} (h : IsSet P k e w b n S c) {n' : Nat} (hn : n ≤ n') : IsSet P k e w b n' S c := by
  obtain ⟨D, ho, hr⟩ := h
  exact ⟨D, ho.mono hn, hr⟩

theorem IsSet.count_le {P : Program} {k : TypeId} {e : TypeId} {w : World} {b : Nat} {n : Nat} {c : Nat} {S : Int → Bool} (h : IsSet P k e w b n S c) : c ≤ n := by
  obtain ⟨D, ho, _, _, hc⟩ := h
  rw [← hc]; exact ho.size_le

/-- 'm[x]'. -/
theorem IsSet.lookup {P : Program} {t : TypeId} {k : TypeId} {e : TypeId} {w : World} {b : Nat} {n : Nat} {c : Nat} {S : Int → Bool} (I : IB P t k e) (h : IsSet P k e w b n S c) {x : Int} (hx : wfI x) : (Instr.lookup t (.map (some b)) (.int .i64 x) false).run P w = .ok (.bool (S x)) w := by
  obtain ⟨ht, hk, he, hz⟩ := I
  obtain ⟨D, ho, _, hr, _⟩ := h
  obtain ⟨v, ps, hrun, hv⟩ := ho.lookup (Maps.int_keyed hk) ht (hz w) (plainElem_bool he false) (Maps.keyOf_int_mk hk hx)
  rw [(hr x hx).2] at hv
  obtain ⟨y, rfl, hy⟩ := plainElem_bool_inv he hv
  simp at hy
  rw [hrun, hy.1]

/-- 'len(m)'. -/
theorem IsSet.len {P : Program} {t : TypeId} {k : TypeId} {e : TypeId} {w : World} {b : Nat} {n : Nat} {c : Nat} {S : Int → Bool} (I : IB P t k e) (h : IsSet P k e w b n S c) (ty : TypeId) : (Builtin.len_ #[t] ty #[.map (some b)]).run P w = .ok (.int .i64 c) w := by
  obtain ⟨D, ho, _, _, hc⟩ := h
  rw [ho.len I.1 ty, hc]

/-- 'm[x] = true'. -/
theorem IsSet.store {P : Program} {t : TypeId} {k : TypeId} {e : TypeId} {w : World} {b : Nat} {n : Nat} {c : Nat} {S : Int → Bool} (I : IB P t k e) (h : IsSet P k e w b n S c) (hn : n < maxLen) {x : Int} (hx : wfI x) :
    ∃ w', (Instr.mapUpdate t (.map (some b)) (.int .i64 x) (.bool true)).run P w = .ok () w' ∧ IsSet P k e w' b (n + 1) (fun y => decide (y = x) || S y) (if S x = true then c else c + 1) ∧ w.grownBy w' (some b) := by
  obtain ⟨ht, hk, he, hz⟩ := I
  obtain ⟨D, ho, hr⟩ := h
  obtain ⟨w', hrun, ho', hg⟩ := ho.update (Maps.int_keyed hk) ht hn (Maps.keyOf_int_mk hk hx) (plainElem_bool he true)
  exact ⟨w', hrun, ⟨_, ho', hr.put hx⟩, hg⟩

/-- 'delete(m, x)'. -/
theorem IsSet.drop {P : Program} {t : TypeId} {k : TypeId} {e : TypeId} {w : World} {b : Nat} {n : Nat} {c : Nat} {S : Int → Bool} (I : IB P t k e) (h : IsSet P k e w b n S c) {x : Int} (hx : wfI x) (ty : TypeId) :
    ∃ w', (Builtin.delete_ #[t, k] ty #[.map (some b), .int .i64 x]).run P w = .ok (.tuple #[]) w' ∧ IsSet P k e w' b n (fun y => !decide (y = x) && S y) (if S x = true then c - 1 else c) ∧ w.grownBy w' (some b) := by
  obtain ⟨ht, hk, he, hz⟩ := I
  obtain ⟨D, ho, hr⟩ := h
  obtain ⟨w', hrun, ho', hg⟩ := ho.drop (Maps.int_keyed hk) ht (Maps.keyOf_int_mk hk hx) ty
  exact ⟨w', hrun, ⟨_, ho', hr.del hx⟩, hg.grown⟩

/-- 'clear(m)'. -/
theorem IsSet.clear {P : Program} {t : TypeId} {k : TypeId} {e : TypeId} {w : World} {b : Nat} {n : Nat} {c : Nat} {S : Int → Bool} (I : IB P t k e) (h : IsSet P k e w b n S c) (ty : TypeId) :
    ∃ w', (Builtin.clear_ #[t] ty #[.map (some b)]).run P w = .ok (.tuple #[]) w' ∧ IsSet P k e w' b 0 (fun _ => false) 0 ∧ w.grownBy w' (some b) := by
  obtain ⟨ht, hk, he, hz⟩ := I
  obtain ⟨D, ⟨es, clock, hb, F, hs, hD⟩, hr⟩ := h
  refine ⟨ChangeMaps.setBlock w b (.map #[] clock), ?_, ⟨.map [], ⟨#[], clock, ChangeMaps.heap_setBlock_same hb _, ⟨by simp, MapKept.stamped_empty clock, by simp⟩, Nat.le_refl _, rfl⟩, Maps.tidy_empty, fun x _ => ⟨rfl, rfl⟩, rfl⟩,
    ⟨rfl, rfl, rfl, by simp [ChangeMaps.setBlock], fun i _ hi => ChangeMaps.heap_setBlock_other hb _ (fun e => hi (by rw [e]))⟩⟩
  simp [Builtin.clear_, run_underlying ht, MapKept.run_getObj_map hb, MapKept.run_setObj_map _ hb, Result.andThen, ChangeMaps.setBlock]

/-! A range over the set under way: which numbers are still to come -/

def IsRange (P : Program) (k e : TypeId) (w : World) (b r n : Nat) (S left : Int → Bool) (c cnt : Nat) : Prop :=
  ∃ (D : DataW Unit) (L : Lit → Bool), w.ranges P k (plainElem P e) b r n D L cnt ∧ Reads D S c ∧ ∀ x, wfI x → L (.int .i64 x) = left x

theorem IsRange.isSet {P : Program} {k : TypeId} {e : TypeId} {w : World} {b : Nat} {n : Nat} {c : Nat} {S : Int → Bool} {r : Nat} {cnt : Nat} {left : Int → Bool} (h : IsRange P k e w b r n S left c cnt) : IsSet P k e w b n S c := by
  obtain ⟨D, L, hg, hr, _⟩ := h
  exact ⟨D, hg.owns, hr⟩

theorem IsRange.left_eq {P : Program} {k : TypeId} {e : TypeId} {w : World} {b : Nat} {n : Nat} {c : Nat} {S : Int → Bool} {r : Nat} {cnt : Nat} {left : Int → Bool} (h : IsRange P k e w b r n S left c cnt) : w.rangeLeft b r = cnt := by
  obtain ⟨D, L, hg, _⟩ := h
  exact hg.left_eq

theorem IsRange.lt {P : Program} {k : TypeId} {e : TypeId} {w : World} {b : Nat} {n : Nat} {c : Nat} {S : Int → Bool} {r : Nat} {cnt : Nat} {left : Int → Bool} (h : IsRange P k e w b r n S left c cnt) : r < w.heap.size := by
  obtain ⟨D, L, hg, _⟩ := h
  exact hg.lt

theorem IsRange.grown {P : Program} {k : TypeId} {e : TypeId} {w : World} {b : Nat} {n : Nat} {c : Nat} {S : Int → Bool} {r : Nat} {cnt : Nat} {left : Int → Bool} {w' : World} {row : Option Nat} (h : IsRange P k e w b r n S left c cnt) (hg : w.grownBy w' row) (hb : some b ≠ row) (hr : some r ≠ row) : IsRange P k e w' b r n S left c cnt := by
  obtain ⟨D, L, h1, h2⟩ := h
  exact ⟨D, L, h1.kept hg hb hr, h2⟩

theorem same_lit (x y : Int) : (Lit.int .i64 y).sameKey (.int .i64 x) = decide (y = x) := by
  by_cases e : y = x
  · subst e
    simp [Lit.sameKey]
  · rw [Maps.sameKey_ne (lit_ne e), decide_eq_false e]

/-- 'm[x] = true', for the walk. -/
theorem wpList_set_store {P : Program} {t : TypeId} {k : TypeId} {e : TypeId} {ops : Array Oper} {rest : List Oper} {o : Oper} {a : Act} {Q : Exit → Act → World → Prop} (w : World) {b n c : Nat} {S : Int → Bool} (I : IB P t k e) (hgd : o.guard = none) (m x v : Operand) (hop : o.op = Op.mapUpdate t m x v) (hm : a.eval m = .map (some b)) (h : IsSet P k e w b n S c) (hn : n < maxLen) (z : Int) (hx : a.eval x = .int .i64 z) (hv : a.eval v = .bool true) (hz : wfI z)
    (hK : ∀ w', IsSet P k e w' b (n + 1) (fun y => decide (y = z) || S y) (if S z = true then c else c + 1) → w.grownBy w' (some b) → wpList P ops Q rest (a.put o.dst undef) w') : wpList P ops Q (o :: rest) a w := by
  refine wpList_plain hgd fun K' hK' => ?_
  obtain ⟨w', hrun, r1, r2⟩ := h.store I hn hz
  unfold Oper.wp
  simp [execOp, hop, hm, hx, hv, hrun, Result.andThen]
  exact hK' _ _ (hK w' r1 r2)

/-- 'delete(m, x)', for the walk. -/
theorem wpList_set_drop {P : Program} {t : TypeId} {k : TypeId} {e : TypeId} {ops : Array Oper} {rest : List Oper} {o : Oper} {a : Act} {Q : Exit → Act → World → Prop} (w : World) {b n c : Nat} {S : Int → Bool} (I : IB P t k e) (hgd : o.guard = none) (m x : Operand) (hop : o.op = Op.call { callee := Callee.builtin Builtin.delete, args := #[m, x], argTypes := #[t, k] }) (hm : a.eval m = .map (some b)) (h : IsSet P k e w b n S c) (z : Int) (hx : a.eval x = .int .i64 z) (hz : wfI z)
    (hK : ∀ w', IsSet P k e w' b n (fun y => !decide (y = z) && S y) (if S z = true then c - 1 else c) → w.grownBy w' (some b) → wpList P ops Q rest (a.put o.dst (.tuple #[])) w') : wpList P ops Q (o :: rest) a w := by
  refine wpList_plain hgd fun K' hK' => ?_
  obtain ⟨w', hrun, r1, r2⟩ := h.drop I hz o.type
  unfold Oper.wp
  simp [execOp, hop, resolve, invoke, builtin, hm, hx, hrun, Result.andThen]
  exact hK' _ _ (hK w' r1 r2)

/-- 'clear(m)', for the walk. -/
theorem wpList_set_clear {P : Program} {t : TypeId} {k : TypeId} {e : TypeId} {ops : Array Oper} {rest : List Oper} {o : Oper} {a : Act} {Q : Exit → Act → World → Prop} (w : World) {b n c : Nat} {S : Int → Bool} (I : IB P t k e) (hgd : o.guard = none) (m : Operand) (hop : o.op = Op.call { callee := Callee.builtin Builtin.clear, args := #[m], argTypes := #[t] }) (hm : a.eval m = .map (some b)) (h : IsSet P k e w b n S c)
    (hK : ∀ w', IsSet P k e w' b 0 (fun _ => false) 0 → w.grownBy w' (some b) → wpList P ops Q rest (a.put o.dst (.tuple #[])) w') : wpList P ops Q (o :: rest) a w := by
  refine wpList_plain hgd fun K' hK' => ?_
  obtain ⟨w', hrun, r1, r2⟩ := h.clear I o.type
  unfold Oper.wp
  simp [execOp, hop, resolve, invoke, builtin, hm, hrun, Result.andThen]
  exact hK' _ _ (hK w' r1 r2)

/-- 'range m', for the walk. -/
theorem wpList_set_range {P : Program} {t : TypeId} {k : TypeId} {e : TypeId} {ops : Array Oper} {rest : List Oper} {o : Oper} {a : Act} {Q : Exit → Act → World → Prop} (w : World) {b n c : Nat} {S : Int → Bool} (I : IB P t k e) (hgd : o.guard = none) (m : Operand) (hop : o.op = Op.range t m) (hm : a.eval m = .map (some b)) (h : IsSet P k e w b n S c)
    (hK : ∀ w', IsRange P k e w' b w.heap.size n S S c c → w.grownBy w' none → w'.heap.size = w.heap.size + 1 → wpList P ops Q rest (a.put o.dst (.pointer (some ⟨w.heap.size, 0, none⟩))) w') : wpList P ops Q (o :: rest) a w := by
  obtain ⟨ht, hk, he, hz⟩ := I
  obtain ⟨D, ho, hr⟩ := h
  refine wpList_range_own w hgd m t hop k e (Maps.int_keyed hk) ht (plainElem P e) b n D hm ho fun w' h1 h2 h3 => ?_
  have hc := hr.2.2
  rw [hc] at h1
  exact hK w' ⟨D, _, h1, hr, fun x hx => (hr.2.1 x hx).1⟩ h2 h3

/-- The step of such a range: nothing is left, or a number has come. -/
theorem wpList_set_next {P : Program} {t : TypeId} {k : TypeId} {e : TypeId} {ops : Array Oper} {rest : List Oper} {o : Oper} {a : Act} {Q : Exit → Act → World → Prop} (w : World) {b r n c cnt : Nat} {S left : Int → Bool} (I : IB P t k e) (hgd : o.guard = none) (it : Operand) (hop : o.op = Op.next it false) (hit : a.eval it = .pointer (some ⟨r, 0, none⟩)) (h : IsRange P k e w b r n S left c cnt)
    (hDone : cnt = 0 → (∀ x, wfI x → left x = false) → wpList P ops Q rest (a.put o.dst (.tuple #[.bool false])) w)
    (hMore : ∀ (x : Int) (w' : World) (cnt' : Nat), wfI x → left x = true → S x = true → IsRange P k e w' b r n S (fun y => left y && !decide (y = x)) c cnt' → cnt' < cnt → w.grownBy w' (some r) → w'.heap.size = w.heap.size →
      (Instr.entry (.pointer (some ⟨r, 0, none⟩))).run P w' = .ok (.tuple #[.int .i64 x, .bool true]) w' → wpList P ops Q rest (a.put o.dst (.tuple #[.bool true, .int .i64 x, .bool true])) w') : wpList P ops Q (o :: rest) a w := by
  obtain ⟨ht, hk, he, hz⟩ := I
  obtain ⟨D, L, hg, hr, hl⟩ := h
  refine wpList_next_ranges w hgd it hop k (Maps.int_keyed hk) (plainElem P e) (Value.int .i64) Value.bool (fun key kl hkey => by obtain ⟨x, rfl, _⟩ := Maps.keyOf_int_inv hk hkey; exact ⟨x, rfl⟩) (fun v y hv => by obtain ⟨c, rfl, _⟩ := plainElem_bool_inv he hv; exact ⟨c, rfl⟩)
    b r n D L cnt hit hg (fun h0 h1 => hDone h0 fun x hx => by rw [← hl x hx]; exact h1 _) (fun x q kl y w' cnt' hkey hlk hv hat hrg hlt hgr hsz hen => ?_)
  obtain ⟨x', ex, rfl, hwx⟩ := Maps.keyOf_int_inv hk hkey
  cases ex
  obtain ⟨q', eq, rfl⟩ := plainElem_bool_inv he hv
  cases eq
  have h1 : Maps.has D (.int .i64 x) = true := Maps.has_true_of_atKey hat
  rw [(hr.2.1 x hwx).1] at h1
  have h2 := (hr.2.1 x hwx).2
  rw [hat, h1] at h2
  simp at h2
  subst h2
  refine hMore x w' cnt' hwx (by rw [← hl x hwx]; exact hlk) h1 ⟨D, _, hrg, hr, fun y hy => ?_⟩ hlt hgr hsz hen
  rw [hl y hy, same_lit]

end Go.Proofs.Ytmjhapkhfelbpaa
