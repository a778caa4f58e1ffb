/-
  Texts laid together: Plain PlainB Core PlainC PlainE NodePlain NodeMem Turns BoxL BoxTurns GnPlain WaitPlain TaskPlain StateMem DagPlain DagOrd DagShape RunPlain DagMem RunMem RunStore RunClone RunRange ContainsI RunThose RunCount RunRefHas RunRefReady WaitOwn TaskOwn RunDone RunFits RunTok RunOk.
-/
import Derived.WalkKit
import Derived.Laws.BitsLemmas
import Derived.Lib.Join
import Derived.Lib.Repeat
import Derived.Test.YtdpljpjbomhccaaRows
import Derived.WalkSpells
import Derived.WalkLawsBesides
import Derived.Handy
import Derived.Deep.OwnRows
import Derived.Deep.AppendLies
import Derived.Lib.SmallJoins
import Derived.Lib.SliceRun
import Derived.Lib.Strings
import Derived.Deep.SlicePairs
import Derived.Deep.Strs
import Derived.Lib.AppendZeros
import Derived.RangeFuncOwn
import Derived.RangeFuncNested
import Derived.RangeFuncBound
import Derived.RangeFuncCalls
import Derived.RangeFuncLeaves
import Derived.Shelf.Abstract
import Derived.Shelf.RegionOpen
import Derived.OwnWalkIn
import Derived.TacticsInMore
import Derived.LoopNIn
import Derived.LoopIn
import Derived.Deep.RegionHeld3
import Derived.Maps.OwnSet
import Derived.Maps.OwnIn
namespace Go.Proofs.Ytdpljpjbomhccaa.Plain
open Go.RowKit
theorem bytes_ext {a b : ByteArray} (h : a.data.toList = b.data.toList) : a = b := by
 cases a; cases b
 simp at h
 simp [h]
end Go.Proofs.Ytdpljpjbomhccaa.Plain
namespace Go.Proofs.Ytdpljpjbomhccaa
open Go.RowKit Plain Go.ChangeShapes Go.WideShapes
set_option linter.unusedVariables false
theorem Try.info4 : (Try.prog.info? 4).map (fun i => (i.zero, i.size, i.bytes)) = some (some (.bool false), 1, 1) := by kernel_rfl
theorem Try.info3 : (Try.prog.info? 3).map (fun i => (i.zero, i.size, i.bytes)) = some (some (.int .i64 0), 1, 8) := by kernel_rfl
theorem ret_bool {a b : Bool} (h : a = b) : Ending.returned (.bool a) = .returned (.bool b) := by rw [h]
theorem ret_int {a b : Int} (h : a = b) : Ending.returned (.int .i64 a) = .returned (.int .i64 b) := by rw [h]
theorem Below.tr {w a b : World} (h : Below w.heap.size w a) (k : Below a.heap.size a b) : Below w.heap.size w b := h.trans (k.mono h.size)
theorem cell_lt {w : World} {p : Addr} {v : Value} (h : w.cell? p = some v) : p.block < w.heap.size := by
 refine Nat.lt_of_not_le fun hn => ?_
 unfold World.cell? at h
 rw [Array.getElem?_eq_none hn] at h
 cases h
theorem cell_below {w w' : World} {p : Addr} {v : Value} (hb : Below w.heap.size w w') (h : w.cell? p = some v) : w'.cell? p = some v := by
 rw [hb.cell (cell_lt h)]; exact h
theorem cell_alloc {w : World} {p : Addr} {v : Value} (h : w.cell? p = some v) : ∀ o, (w.alloc o).cell? p = some v := fun o => Lib.cell?_alloc_some _ h
theorem at_add (g o j : Nat) : (⟨g, o, none⟩ : Addr).add j = ⟨g, o + j, none⟩ := by
 unfold Addr.add; split <;> simp_all
theorem made_one (z : Value) (n : Nat) : madeCells #[z] n = (List.replicate n z).toArray := by
 apply Array.ext'
 rw [toList_madeCells_one]
theorem spot_none {w : World} {x : Addr} {v : Value} (h : w.cell? (x.add 0) = some v) : ∃ b o, x = ⟨b, o, none⟩ ∧ b < w.heap.size := by
 obtain ⟨b, o, s⟩ := x
 have hs : s = none := by simpa [Addr.add] using World.cell?_spot h
 subst hs
 rw [at_add] at h
 exact ⟨b, o, rfl, cell_lt h⟩
theorem heap_new (w : World) (o : Obj) : (w.alloc o).heap[w.heap.size]? = some o := by
 show (w.heap.push o)[w.heap.size]? = some o
 simp
def IsI (w : World) (a : Option Addr) (c : Nat) (ms : List Int) : Prop :=
 ms.length ≤ c ∧ c ≤ maxLen ∧ ∀ j m, ms[j]? = some m → ∃ b o, a = some ⟨b, o, none⟩ ∧ b < w.heap.size ∧ w.cell? ⟨b, o + j, none⟩ = some (.int .i64 m)
theorem IsI.below {w w' : World} {a : Option Addr} {c : Nat} {ms : List Int} (h : IsI w a c ms) (hb : Below w.heap.size w w') : IsI w' a c ms := by
 refine ⟨h.1, h.2.1, fun j x hx => ?_⟩
 obtain ⟨b, o, ha, hlt, hc⟩ := h.2.2 j x hx
 exact ⟨b, o, ha, Nat.lt_of_lt_of_le hlt hb.size, by rw [hb.cell (p := ⟨b, o + j, none⟩) hlt]; exact hc⟩
theorem IsI.take {w : World} {a : Option Addr} {c : Nat} {ms : List Int} (h : IsI w a c ms) (n : Nat) : IsI w a c (ms.take n) := by
 refine ⟨by rw [List.length_take]; have := h.1; omega, h.2.1, fun j x hx => h.2.2 j x ?_⟩
 rw [List.getElem?_take] at hx
 split at hx
 ·
  exact hx
 ·
  cases hx
theorem open_I {H : Type} {enc : TypeId × Value → H} {w : World} {fuel : Nat} {v : Value} {x : DataW H × List MemPlace}
  (h : DataW.trod enc Try.prog w 0 (fun _ => true) true fuel 48 [v] = some x) : ∃ a c ms, v = .slice a ms.length c ∧ IsI w a c ms := by
 rcases open_ints Try.underlying48 Try.underlying3 (by kernel_rfl) h with ⟨hcs, _⟩ | ⟨a, l, c, ss, hcs, _, hl, hm, hz, _, hcell, hwz⟩
 ·
  simp at hcs
  exact ⟨none, 0, [], hcs, Nat.le_refl _, Nat.zero_le _, fun j m hj => by simp at hj⟩
 ·
  simp at hcs
  simp at hz
  refine ⟨some a, c, ss.take l, by rw [List.length_take, hz, Nat.min_eq_left hl]; exact hcs, by rw [List.length_take]; omega, hm, fun j y hy => ?_⟩
  have hjl : j < ss.length := by
   have := (List.getElem?_eq_some_iff.1 hy).1
   rw [List.length_take] at this; omega
  have hyy : ss[j]? = some y := by
   rw [List.getElem?_take] at hy
   split at hy
   ·
    exact hy
   ·
    cases hy
  have hc := hcell j hjl
  rw [List.getD_eq_getElem?_getD, hyy] at hc
  obtain ⟨b, o, rfl, hb⟩ := spot_none (hcell 0 (by omega))
  rw [at_add] at hc
  exact ⟨b, o, rfl, hb, hc⟩
theorem isI_one (W : World) (m : Int) : IsI (W.alloc (.cells #[.int .i64 m] 3)) (some ⟨W.heap.size, 0, none⟩) 1 [m] := by
 refine ⟨Nat.le_refl _, by unfold maxLen; omega, fun j d hd => ?_⟩
 match j, hd with
 | 0, hd =>
  simp at hd
  subst hd
  exact ⟨W.heap.size, 0, rfl, by simp, World.cell?_alloc_at _ _ _ _ rfl⟩
theorem min_run {x y z : Int} (h : min x y = z) (W : World) : (Builtin.min_ #[3, 3] 3 #[.int .i64 x, .int .i64 y]).run Try.prog W = .ok (.int .i64 z) W := by
 simp [Builtin.min_, Builtin.min2]
 split <;> omega
theorem max_run {x y z : Int} (h : max x y = z) (W : World) : (Builtin.max_ #[3, 3] 3 #[.int .i64 x, .int .i64 y]).run Try.prog W = .ok (.int .i64 z) W := by
 simp [Builtin.max_, Builtin.max2]
 split <;> omega
theorem str_beq {a b : ByteArray} : (a.toList == b.toList) = true ↔ a = b := by
 rw [beq_iff_eq, ByteArray.toList_eq, ByteArray.toList_eq]
 exact ⟨bytes_ext, fun h => by rw [h]⟩
theorem str_eq_true {a b : ByteArray} (h : a = b) : (a.toList == b.toList) = true := str_beq.2 h
theorem str_eq_false {a b : ByteArray} (h : ¬ a = b) : (a.toList == b.toList) = false := by
 rw [Bool.eq_false_iff]; exact fun hh => h (str_beq.1 hh)
theorem str_ne_false {a b : ByteArray} (h : a = b) : (!a.toList == b.toList) = false := by rw [str_eq_true h]; rfl
theorem str_ne_true {a b : ByteArray} (h : ¬ a = b) : (!a.toList == b.toList) = true := by rw [str_eq_false h]; rfl
end Go.Proofs.Ytdpljpjbomhccaa
namespace Go.Proofs.Ytdpljpjbomhccaa.Plain
open Go.RowKit
end Go.Proofs.Ytdpljpjbomhccaa.Plain
namespace Go.Proofs.Ytdpljpjbomhccaa.Plain
open Go.RowKit
set_option linter.unusedVariables false
end Go.Proofs.Ytdpljpjbomhccaa.Plain
namespace Go.Proofs.Ytdpljpjbomhccaa
open Go.RowKit Plain Go.ChangeShapes Go.WideShapes
set_option linter.unusedVariables false
theorem isI_nil (w : World) : IsI w none 0 [] := ⟨Nat.le_refl _, Nat.zero_le _, fun j m hj => by simp at hj⟩
end Go.Proofs.Ytdpljpjbomhccaa
namespace Go.Proofs.Ytdpljpjbomhccaa
open Go.RowKit Plain
set_option linter.unusedVariables false
structure Turns (P : Nat → Prop) (w w' : World) : Prop where
 os : w'.os = w.os
 tape : w'.tape = w.tape
 output : w'.output = w.output
 size : w.heap.size ≤ w'.heap.size
 block : ∀ k, k < w.heap.size → ¬ P k → w'.heap[k]? = w.heap[k]?
theorem Turns.refl (P : Nat → Prop) (w : World) : Turns P w w := ⟨rfl, rfl, rfl, Nat.le_refl _, fun _ _ _ => rfl⟩
theorem Turns.trans {P : Nat → Prop} {a b c : World} (h : Turns P a b) (k : Turns P b c) : Turns P a c :=
 ⟨k.os.trans h.os, k.tape.trans h.tape, k.output.trans h.output, Nat.le_trans h.size k.size, fun i hi hp => (k.block i (Nat.lt_of_lt_of_le hi h.size) hp).trans (h.block i hi hp)⟩
theorem Turns.mono {P Q : Nat → Prop} {w w' : World} (h : Turns P w w') (hq : ∀ k, P k → Q k) : Turns Q w w' :=
 ⟨h.os, h.tape, h.output, h.size, fun k hk hp => h.block k hk fun x => hp (hq k x)⟩
theorem Turns.mono' {P Q : Nat → Prop} {w w' : World} (h : Turns P w w') (hq : ∀ k, k < w.heap.size → P k → Q k) : Turns Q w w' :=
 ⟨h.os, h.tape, h.output, h.size, fun k hk hp => h.block k hk fun x => hp (hq k hk x)⟩
theorem Turns.of_below {P : Nat → Prop} {w w' : World} (h : Below w.heap.size w w') : Turns P w w' :=
 ⟨h.os, h.tape, h.output, h.size, fun k hk _ => h.block k hk⟩
theorem Turns.drew {P : Nat → Prop} {a w : World} (h : Turns P a w) : Turns P a w.drew := ⟨h.os, h.tape, h.output, h.size, h.block⟩
theorem Turns.alloc {P : Nat → Prop} {a w : World} (h : Turns P a w) (o : Obj) : Turns P a (w.alloc o) :=
 h.trans (Turns.of_below ((Below.refl _ _).alloc (Nat.le_refl _) o))
theorem Turns.setCell {P : Nat → Prop} {a w : World} (h : Turns P a w) {p : Addr} (hp : P p.block) (u : Value) : Turns P a (w.setCell p u) :=
 h.trans ⟨rfl, rfl, rfl, by simp [World.setCell], fun k hk hn => Below.heap_setCell _ _ _ _ (fun e => hn (e ▸ hp))⟩
theorem Turns.grown {P : Nat → Prop} {a w w' : World} {row : Option Nat} (h : Turns P a w) (hg : w.grownBy w' row) (hr : ∀ k, row = some k → P k) : Turns P a w' :=
 h.trans ⟨hg.os, hg.tape, hg.output, hg.size, fun k hk hn => hg.block k hk fun e => hn (hr k e.symm)⟩
theorem Turns.tr {P : Nat → Prop} {a w w' : World} (h : Turns P a w) (hb : Below w.heap.size w w') : Turns P a w' := h.trans (Turns.of_below hb)
theorem Turns.cell {P : Nat → Prop} {w w' : World} (h : Turns P w w') {p : Addr} {v : Value} (hn : ¬ P p.block) (hc : w.cell? p = some v) : w'.cell? p = some v := by
 rw [World.cell?_of_block (w := w) (h.block p.block (cell_lt hc) hn)]; exact hc
theorem Turns.frozen {P : Nat → Prop} {w w' : World} (h : Turns P w w') {p : Addr} (hl : p.block < w.heap.size) (hn : ¬ P p.block) (hc : w.frozen? p = false) : w'.frozen? p = false := by
 rw [World.frozen?_of_block (w := w) (h.block p.block hl hn)]; exact hc
theorem Below.turns {P : Nat → Prop} {w a b : World} (h : Below w.heap.size w a) (k : Turns P a b) (hP : ∀ i, P i → w.heap.size ≤ i) : Below w.heap.size w b :=
 ⟨k.os.trans h.os, k.tape.trans h.tape, k.output.trans h.output, Nat.le_trans h.size k.size, fun i hi => (k.block i (Nat.lt_of_lt_of_le hi h.size) fun x => by have := hP i x; omega).trans (h.block i hi)⟩
theorem Turns.owns {P : Nat → Prop} {w w' : World} {B : Nat} {e : TypeId} {s : Nat} {v : Value} {n : Nat} {xs : List Value} (h : Turns P w w') (ho : w.ownsRow B e s v n xs) (hn : ∀ g, v.ownBlock = some g → ¬ P g) : w'.ownsRow B e s v n xs := by
 obtain ⟨h1, h2⟩ := ho
 refine ⟨h1, ?_⟩
 rcases h2 with h2 | ⟨g, cap, cur, hv, hg, hh, r⟩
 ·
  exact .inl h2
 ·
  have hl : g < w.heap.size := by
   refine Nat.lt_of_not_le fun hx => ?_
   rw [Array.getElem?_eq_none hx] at hh
   cases hh
  exact .inr ⟨g, cap, cur, hv, hg, by rw [h.block g hl (hn g (by rw [hv]; rfl))]; exact hh, r⟩
def From (base : Nat) (a : Option Addr) : Prop := ∀ x, a = some x → base ≤ x.block
theorem from_nil (base : Nat) : From base none := fun x h => by cases h
theorem From.mono {base base' : Nat} {a : Option Addr} (h : From base a) (hb : base' ≤ base) : From base' a := fun x e => Nat.le_trans hb (h x e)
theorem IsI.turns {P : Nat → Prop} {w w' : World} {a : Option Addr} {c : Nat} {ms : List Int} (h : IsI w a c ms) (t : Turns P w w') (hp : ∀ x, a = Option.some x → ¬ P x.block) : IsI w' a c ms := by
 refine ⟨h.1, h.2.1, fun j x hx => ?_⟩
 obtain ⟨b, o, ha, hlt, hc⟩ := h.2.2 j x hx
 exact ⟨b, o, ha, Nat.lt_of_lt_of_le hlt t.size, t.cell (p := ⟨b, o + j, none⟩) (hp ⟨b, o, none⟩ ha) hc⟩
def Apart (u v : Value) : Prop := ∀ g, u.ownBlock = some g → v.ownBlock ≠ some g
theorem Apart.symm {u v : Value} (h : Apart u v) : Apart v u := fun g h1 h2 => h g h2 h1
theorem push_Z (W : World) (base : Nat) (v : Value) (n : Nat) (l : List Int) (x : Int) (hown : W.ownsRow base 3 1 v n (l.map (Value.int .i64))) (hb : base ≤ W.heap.size) (hn : n ≤ 4096) :
  ∃ g cap w', (Builtin.append_ #[48, 48] 48 #[v, .slice (some ⟨W.heap.size, 0, none⟩) 1 1]).run Try.prog (W.alloc (.cells #[.int .i64 x] 3)) = .ok (.slice (some ⟨g, 0, none⟩) (n + 1) cap) w' ∧
   w'.ownsRow base 3 1 (.slice (some ⟨g, 0, none⟩) (n + 1) cap) (n + 1) ((l ++ [x]).map (Value.int .i64)) ∧ (W.alloc (.cells #[.int .i64 x] 3)).grownBy w' v.ownBlock ∧ (v.ownBlock = some g ∨ g = W.heap.size + 1) ∧ base ≤ g ∧ g < w'.heap.size := by
 obtain ⟨i0, hi, hz0, hz1, hz2⟩ := info_parts Try.info3
 obtain ⟨g, cap, w', h1, h2, h3, h4, h5⟩ := run_append_lies (P := Try.prog) (W.alloc (.cells #[.int .i64 x] 3)) 48 48 base 3 i0 _ 1 8 Try.underlying48 hi hz0 hz1 hz2 rfl (by decide) v n (l.map (Value.int .i64)) (hown.alloc _) ⟨W.heap.size, 0, none⟩ 1 1 [.int .i64 x] rfl
  (by
   intro j u hj
   match j, hj with
   | 0, hj => simp at hj; subst hj; rw [at_add]; exact World.cell?_alloc_at _ _ _ _ rfl)
  (by intro u hu; simp at hu; subst hu; rfl) (by omega) (by unfold maxLen; omega) (by omega) (by simp; omega) (W.heap.size + 1) (by simp)
 refine ⟨g, cap, w', h1, by rw [List.map_append]; exact h2, h3, h4, (h2.lt g rfl).1, h5⟩
theorem owns_I {w : World} {base : Nat} {v : Value} {n : Nat} {l : List Int} (h : w.ownsRow base 3 1 v n (l.map (Value.int .i64))) : ∃ a c, v = .slice a n c ∧ n = l.length ∧ IsI w a c l ∧ From base a := by
 have hlen : l.length = n := by simpa using h.1
 have hcells := fun g => h.cells (g := g)
 have hlt := h.lt
 rcases h.2 with ⟨rfl, rfl⟩ | ⟨g, cap, cur, rfl, hg, hh, hnc, hcm, hcs, htk⟩
 ·
  obtain rfl : l = [] := List.length_eq_zero_iff.1 hlen
  exact ⟨none, 0, rfl, rfl, ⟨Nat.le_refl _, Nat.zero_le _, fun j m hj => by simp at hj⟩, from_nil _⟩
 ·
  refine ⟨_, _, rfl, hlen.symm, ⟨by omega, hcm, fun j x hx => ⟨g, 0, rfl, (hlt g rfl).2, ?_⟩⟩, fun x hx => by cases hx; exact hg⟩
  have := hcells g rfl j (.int .i64 x) (by rw [List.getElem?_map, hx]; rfl)
  rw [at_add] at this
  exact this
def BoxL (w : World) (h : Nat) (vs : List Value) : Prop :=
 (∀ i v, vs[i]? = some v → w.cell? ⟨h, i, none⟩ = some v) ∧ ∀ i, i < vs.length → w.frozen? ⟨h, i, none⟩ = false
theorem boxL_new (w : World) (vs : List Value) (t : TypeId) {h : Nat} (hh : h = w.heap.size) : BoxL (w.alloc (.cells vs.toArray t)) h vs := by
 subst hh
 refine ⟨fun i v hv => (World.cell?_alloc_at _ _ _ _ rfl).trans (by rw [List.getElem?_toArray]; exact hv), fun i _ => ?_⟩
 exact (World.frozen?_alloc_mark w _ _ _ _ i).trans (by simp)
theorem BoxL.lt {w : World} {h : Nat} {vs : List Value} (b : BoxL w h vs) (h0 : 0 < vs.length) : h < w.heap.size :=
 cell_lt (b.1 0 _ (List.getElem?_eq_getElem h0))
theorem BoxL.below {w w' : World} {h : Nat} {vs : List Value} (b : BoxL w h vs) (hb : Below w.heap.size w w') : BoxL w' h vs := by
 refine ⟨fun i v hv => cell_below hb (b.1 i v hv), fun i hi => ?_⟩
 have hl : h < w.heap.size := b.lt (by omega)
 rw [hb.frozen (p := ⟨h, i, none⟩) hl]
 exact b.2 i hi
theorem BoxL.alloc {w : World} {h : Nat} {vs : List Value} (b : BoxL w h vs) (o : Obj) : BoxL (w.alloc o) h vs := b.below ((Below.refl _ _).alloc (Nat.le_refl _) o)
theorem BoxL.set {w : World} {h : Nat} {vs : List Value} (b : BoxL w h vs) (i : Nat) (u : Value) : BoxL (w.setCell ⟨h, i, none⟩ u) h (vs.set i u) := by
 refine ⟨fun j v hv => ?_, fun j hj => ?_⟩
 ·
  by_cases hij : i = j
  ·
   subst hij
   rw [List.getElem?_set] at hv
   rw [if_pos rfl] at hv
   split at hv
   ·
    rename_i hi
    obtain rfl := Option.some.inj hv
    exact World.cell?_setCell_same _ _ _ (b.1 i _ (List.getElem?_eq_getElem hi))
   ·
    cases hv
  ·
   rw [List.getElem?_set_ne hij] at hv
   rw [World.cell?_setCell_other _ _ _ _ (fun hh => by cases hh; exact hij rfl)]
   exact b.1 j v hv
 ·
  rw [List.length_set] at hj
  simpa using b.2 j hj
theorem BoxL.off {w : World} {h k i : Nat} {vs : List Value} {u : Value} (b : BoxL w h vs) (hn : h ≠ k) : BoxL (w.setCell ⟨k, i, none⟩ u) h vs :=
 ⟨fun j v hv => by rw [World.cell?_setCell_other _ _ _ _ (fun hh => hn (congrArg Addr.block hh).symm)]; exact b.1 j v hv, fun j hj => by simpa using b.2 j hj⟩
theorem boxL_turns {P : Nat → Prop} {w w' : World} {h : Nat} {vs : List Value} (b : BoxL w h vs) (t : Turns P w w') (hp : ¬ P h) : BoxL w' h vs := by
 refine ⟨fun i v hv => t.cell (p := ⟨h, i, none⟩) hp (b.1 i v hv), fun i hi => t.frozen (p := ⟨h, i, none⟩) (b.lt (by omega)) hp (b.2 i hi)⟩
end Go.Proofs.Ytdpljpjbomhccaa
namespace Go.Proofs.Ytdpljpjbomhccaa.Plain
open Go.RowKit
set_option linter.unusedVariables false
end Go.Proofs.Ytdpljpjbomhccaa.Plain
namespace Go.Proofs.Ytdpljpjbomhccaa.Plain
open Go.RowKit
def aftK (w : Int) (k : Nat) : Int := min (w * 2 ^ k) 1048576
theorem aftK_zero (w : Int) : aftK w 0 = min w 1048576 := by simp [aftK]
theorem aftK_succ (w : Int) (k : Nat) : aftK w (k + 1) = min (2 * aftK w k) 1048576 := by
 unfold aftK
 rw [Int.pow_succ, ← Int.mul_assoc]
 generalize w * 2 ^ k = x
 omega
theorem aftK_le (w : Int) (k : Nat) : aftK w k ≤ 1048576 := by unfold aftK; omega
theorem aftK_pos {w : Int} (h : 1 ≤ w) (k : Nat) : 1 ≤ aftK w k := by
 induction k with
 | zero => rw [aftK_zero]; omega
 | succ k ih => rw [aftK_succ]; omega
theorem aftK_stuck {w : Int} {j k : Nat} (h : aftK w j = 1048576) (hk : j ≤ k) : aftK w k = 1048576 := by
 obtain ⟨d, rfl⟩ : ∃ d, k = j + d := ⟨k - j, by omega⟩
 clear hk
 induction d with
 | zero => exact h
 | succ d ih => rw [← Nat.add_assoc, aftK_succ, ih]; omega
theorem aftK_far {w : Int} (h : 1 ≤ w) {k : Nat} (hk : 20 ≤ k) : aftK w k = 1048576 := by
 refine aftK_stuck (j := 20) ?_ hk
 have e : aftK w 20 = min (w * 1048576) 1048576 := rfl
 omega
theorem aftK_big {w : Int} (h : 1048576 ≤ w) (k : Nat) : aftK w k = 1048576 := by
 refine aftK_stuck (j := 0) ?_ (Nat.zero_le _)
 rw [aftK_zero]; omega
theorem pow_small (k : Nat) (hk : k ≤ 39) : (1 : Int) ≤ 2 ^ k ∧ (2 : Int) ^ k ≤ 549755813888 := by
 have e : (2 : Int) ^ 39 = 549755813888 := rfl
 have h2 : (0 : Int) < 2 := by omega
 refine ⟨Int.pow_pos h2, ?_⟩
 rw [← e]
 obtain ⟨d, hd⟩ : ∃ d, 39 = k + d := ⟨39 - k, by omega⟩
 rw [hd, Int.pow_add]
 have h1 : (0 : Int) < 2 ^ k := Int.pow_pos h2
 have h3 : (0 : Int) < 2 ^ d := Int.pow_pos h2
 calc (2 : Int) ^ k = 2 ^ k * 1 := by rw [Int.mul_one]
  _ ≤ 2 ^ k * 2 ^ d := Int.mul_le_mul_of_nonneg_left (by omega) (by omega)
theorem dbl_small {w : Int} (h1 : 1 ≤ w) (h2 : w < 1048576) {k : Nat} (hk : k ≤ 39) : 1 ≤ w * 2 ^ k ∧ w * 2 ^ k ≤ 576460752303423488 := by
 obtain ⟨a, b⟩ := pow_small k hk
 generalize (2 : Int) ^ k = p at *
 constructor
 ·
  have := Int.mul_le_mul h1 a (by omega) (by omega)
  omega
 ·
  have := Int.mul_le_mul (show w ≤ 1048576 by omega) b (by omega) (by omega)
  omega
def afterF (w n : Int) : Int := if w < 1 ∨ n < 1 then 0 else aftK w (n - 1).toNat
theorem afterF_none {w n : Int} (h : w < 1 ∨ n < 1) : afterF w n = 0 := if_pos h
theorem afterF_some {w n : Int} (h : 1 ≤ w) (h' : 1 ≤ n) : afterF w n = aftK w (n - 1).toNat := if_neg (by omega)
def sumP : List Int → Int
 | [] => 0
 | x :: xs => max x 0 + sumP xs
theorem sumP_append (a b : List Int) : sumP (a ++ b) = sumP a + sumP b := by
 induction a with
 | nil => simp [sumP]
 | cons x a ih => simp [sumP, ih]; omega
theorem sumP_nn (l : List Int) : 0 ≤ sumP l := by
 induction l with
 | nil => simp [sumP]
 | cons x l ih => rw [sumP]; omega
theorem sumP_take_le (l : List Int) (k : Nat) : sumP (l.take k) ≤ sumP l := by
 have e : sumP l = sumP (l.take k) + sumP (l.drop k) := by rw [← sumP_append, List.take_append_drop]
 have := sumP_nn (l.drop k)
 omega
theorem sumP_at {l : List Int} {j : Nat} {x : Int} (h : l[j]? = some x) : max x 0 ≤ sumP l := by
 induction l generalizing j with
 | nil => simp at h
 | cons y l ih =>
  rw [sumP]
  cases j with
  | zero => simp at h; subst h; have := sumP_nn l; omega
  | succ j => rw [List.getElem?_cons_succ] at h; have := ih h; omega
def untF (now : Int) (ps : List Int) : Int := min (max now 0 + sumP ps) 1099511627776
theorem untF_nil (now : Int) : untF now [] = min (max now 0) 1099511627776 := by simp [untF, sumP]
theorem untF_bound (now : Int) (ps : List Int) : 0 ≤ untF now ps ∧ untF now ps ≤ 1099511627776 := by
 have := sumP_nn ps
 unfold untF
 omega
theorem sumP_take {ps : List Int} {j : Nat} {x : Int} (h : ps[j]? = some x) : sumP (ps.take (j + 1)) = sumP (ps.take j) + max x 0 := by
 rw [List.take_add_one, h, sumP_append]
 simp [sumP]
theorem untF_take {ps : List Int} {j : Nat} {x : Int} (now : Int) (h : ps[j]? = some x) :
  untF now (ps.take (j + 1)) = min (max (untF now (ps.take j) + min (max x 0) 1099511627776) 0) 1099511627776 := by
 unfold untF
 rw [sumP_take h]
 have := sumP_nn (ps.take j)
 omega
end Go.Proofs.Ytdpljpjbomhccaa.Plain
namespace Go.Proofs.Ytdpljpjbomhccaa.Plain
open Go.RowKit
set_option linter.unusedVariables false
structure StP where
 i : Int
 t : Int
 d : Int
 k : Int
 r : ByteArray
@[reducible] def vT (s : StP) : Value := .agg #[.int .i64 s.i, .int .i64 s.t, .int .i64 s.d, .int .i64 s.k, .string s.r]
def zeroT : StP := ⟨0, 0, 0, 0, ⟨#[]⟩⟩
def standT (s : StP) : Bool := decide ((0 ≤ s.i ∧ s.i ≤ 5) ∧ (0 ≤ s.t ∧ s.t ≤ 8) ∧ (0 ≤ s.d ∧ s.d ≤ 1099511627776) ∧ ((s.i = 2 → 1 ≤ s.k) ∧ (s.i ≠ 2 → s.k = 0)) ∧ s.k ≤ 1099511627776 ∧ s.r.size ≤ 16 ∧ (s.i ≠ 3 → s.r = ⟨#[]⟩))
theorem standT_iff (s : StP) : standT s = true ↔ ((0 ≤ s.i ∧ s.i ≤ 5) ∧ (0 ≤ s.t ∧ s.t ≤ 8) ∧ (0 ≤ s.d ∧ s.d ≤ 1099511627776) ∧ ((s.i = 2 → 1 ≤ s.k) ∧ (s.i ≠ 2 → s.k = 0)) ∧ s.k ≤ 1099511627776 ∧ s.r.size ≤ 16 ∧ (s.i ≠ 3 → s.r = ⟨#[]⟩)) := by unfold standT; rw [decide_eq_true_iff]
def restT (tr : Int) (s : StP) : Bool := decide (s.t ≤ tr ∧ (s.i = 0 → s.t = 0) ∧ (s.i = 1 → s.t < tr) ∧ (s.i = 2 ∨ s.i = 3 → 1 ≤ s.t) ∧ (s.i = 4 → s.t = tr) ∧ (s.d = 0 ∨ s.i = 1 ∨ s.i = 2))
theorem restT_iff (tr : Int) (s : StP) : restT tr s = true ↔ (s.t ≤ tr ∧ (s.i = 0 → s.t = 0) ∧ (s.i = 1 → s.t < tr) ∧ (s.i = 2 ∨ s.i = 3 → 1 ≤ s.t) ∧ (s.i = 4 → s.t = tr) ∧ (s.d = 0 ∨ s.i = 1 ∨ s.i = 2)) := by unfold restT; rw [decide_eq_true_iff]
def rightT (tr : Int) (s : StP) : Bool := standT s && restT tr s
def readyT (s : StP) : StP := if s.i = 0 then ⟨1, s.t, s.d, s.k, s.r⟩ else s
def heldE (s : StP) : Int := if s.i = 2 then 0 else 191
def beatT (le : Int) (s : StP) (now : Int) : StP := if s.i = 2 then ⟨2, s.t, untF now [le], s.k, s.r⟩ else zeroT
def doneE (s : StP) (x : ByteArray) : Int := if s.i = 2 then (if x.size ≤ 16 then 0 else 1) else 191
def doneT (s : StP) (x : ByteArray) : StP := if s.i = 2 then (if x.size ≤ 16 then ⟨3, s.t, 0, 0, x⟩ else zeroT) else zeroT
def failT (tr wt : Int) (s : StP) (now : Int) : StP := if s.i = 2 then (if s.t < tr then ⟨1, s.t, untF now [afterF wt s.t], 0, s.r⟩ else ⟨4, s.t, 0, 0, s.r⟩) else zeroT
def expireT (tr wt : Int) (s : StP) (now : Int) : StP := if s.i = 2 ∧ s.d ≤ untF now [] then failT tr wt s s.d else s
def cancelT (s : StP) : StP := if s.i = 0 ∨ s.i = 1 ∨ s.i = 2 then ⟨5, s.t, 0, 0, s.r⟩ else s
theorem right_parts {tr : Int} {s : StP} (h : rightT tr s = true) : standT s = true ∧ restT tr s = true := by
 simpa [rightT] using h
theorem right_of {tr : Int} {s : StP} (h1 : 0 ≤ s.i ∧ s.i ≤ 5) (h2 : 0 ≤ s.t ∧ s.t ≤ 8) (h3 : 0 ≤ s.d ∧ s.d ≤ 1099511627776) (h4 : (s.i = 2 → 1 ≤ s.k) ∧ (s.i ≠ 2 → s.k = 0)) (h5 : s.k ≤ 1099511627776) (h6 : s.r.size ≤ 16) (h7 : s.i ≠ 3 → s.r = ⟨#[]⟩)
  (g1 : s.t ≤ tr) (g2 : s.i = 0 → s.t = 0) (g3 : s.i = 1 → s.t < tr) (g4 : s.i = 2 ∨ s.i = 3 → 1 ≤ s.t) (g5 : s.i = 4 → s.t = tr) (g6 : s.d = 0 ∨ s.i = 1 ∨ s.i = 2) : rightT tr s = true := by
 rw [rightT, Bool.and_eq_true, standT_iff, restT_iff]
 exact ⟨⟨h1, h2, h3, h4, h5, h6, h7⟩, g1, g2, g3, g4, g5, g6⟩
theorem right_fail {tr wt now : Int} {s : StP} (h : rightT tr s = true) (h0 : s.i = 2) : rightT tr (failT tr wt s now) = true ∧ (failT tr wt s now).t = s.t := by
 obtain ⟨a, b⟩ := right_parts h
 rw [failT, if_pos h0]
 obtain ⟨h1, h2, h3, h4, h5, h6, h7⟩ := (standT_iff s).1 a
 obtain ⟨g1, g2, g3, g4, g5, g6⟩ := (restT_iff tr s).1 b
 have h7' := h7 (by omega)
 have ub := untF_bound now [afterF wt s.t]
 have g4' := g4 (.inl h0)
 by_cases hl : s.t < tr
 ·
  rw [if_pos hl]
  refine ⟨right_of ?_ ?_ ?_ ?_ ?_ ?_ ?_ ?_ ?_ ?_ ?_ ?_ ?_, rfl⟩ <;> first
   | exact h6
   | exact fun _ => h7'
   | (simp; done)
   | (simp; omega)
   | (simp only []; omega)
 ·
  rw [if_neg hl]
  refine ⟨right_of ?_ ?_ ?_ ?_ ?_ ?_ ?_ ?_ ?_ ?_ ?_ ?_ ?_, rfl⟩ <;> first
   | exact h6
   | exact fun _ => h7'
   | (simp; done)
   | (simp; omega)
   | (simp only []; omega)
theorem right_cancel {tr : Int} {s : StP} (h : rightT tr s = true) : rightT tr (cancelT s) = true ∧ (cancelT s).t = s.t ∧ (¬ (s.i = 0 ∨ s.i = 1 ∨ s.i = 2) → cancelT s = s) := by
 unfold cancelT
 by_cases h0 : s.i = 0 ∨ s.i = 1 ∨ s.i = 2
 ·
  rw [if_pos h0]
  obtain ⟨a, b⟩ := right_parts h
  obtain ⟨h1, h2, h3, h4, h5, h6, h7⟩ := (standT_iff s).1 a
  obtain ⟨g1, g2, g3, g4, g5, g6⟩ := (restT_iff tr s).1 b
  have h7' := h7 (by omega)
  refine ⟨right_of ?_ ?_ ?_ ?_ ?_ ?_ ?_ ?_ ?_ ?_ ?_ ?_ ?_, rfl, fun hn => absurd h0 hn⟩ <;> first
   | exact h6
   | exact fun _ => h7'
   | (simp; done)
   | (simp; omega)
   | (simp only []; omega)
 ·
  rw [if_neg h0]
  exact ⟨h, rfl, fun _ => rfl⟩
end Go.Proofs.Ytdpljpjbomhccaa.Plain
namespace Go.Proofs.Ytdpljpjbomhccaa
open Go.RowKit Plain Go.ChangeShapes Go.WideShapes
set_option linter.unusedVariables false
instance : Inhabited StP := ⟨zeroT⟩
def cellsZ (ss : List StP) : List Value := ss.flatMap fun s => [.int .i64 s.i, .int .i64 s.t, .int .i64 s.d, .int .i64 s.k, .string s.r]
theorem cellsZ_cons (s : StP) (ss : List StP) : cellsZ (s :: ss) = .int .i64 s.i :: .int .i64 s.t :: .int .i64 s.d :: .int .i64 s.k :: .string s.r :: cellsZ ss := rfl
theorem cellsZ_append (xs ys : List StP) : cellsZ (xs ++ ys) = cellsZ xs ++ cellsZ ys := by simp [cellsZ]
theorem cellsZ_length (ss : List StP) : (cellsZ ss).length = ss.length * 5 := by
 induction ss with
 | nil => rfl
 | cons s ss ih => rw [cellsZ_cons]; simp [ih]; omega
theorem cellsZ_at {ss : List StP} {i : Nat} {s : StP} (h : ss[i]? = some s) : (cellsZ ss)[i * 5]? = some (.int .i64 s.i) ∧ (cellsZ ss)[i * 5 + 1]? = some (.int .i64 s.t) ∧ (cellsZ ss)[i * 5 + 2]? = some (.int .i64 s.d) ∧ (cellsZ ss)[i * 5 + 3]? = some (.int .i64 s.k) ∧ (cellsZ ss)[i * 5 + 4]? = some (.string s.r) := by
 induction ss generalizing i with
 | nil => simp at h
 | cons q ps ih =>
  rw [cellsZ_cons]
  cases i with
  | zero => simp at h; subst h; exact ⟨rfl, rfl, rfl, rfl, rfl⟩
  | succ i =>
   simp at h
   have := ih h
   rw [Nat.succ_mul]
   simpa using this
def IsZ (w : World) (a : Option Addr) (c : Nat) (ss : List StP) : Prop :=
 ss.length ≤ c ∧ c ≤ maxLen ∧ ∀ (j : Nat) x, ss[j]? = some x → ∃ b o, a = some ⟨b, o, none⟩ ∧ b < w.heap.size ∧ (w.cell? ⟨b, o + j * 5, none⟩ = some (.int .i64 x.i) ∧ w.cell? ⟨b, o + j * 5 + 1, none⟩ = some (.int .i64 x.t) ∧ w.cell? ⟨b, o + j * 5 + 2, none⟩ = some (.int .i64 x.d) ∧ w.cell? ⟨b, o + j * 5 + 3, none⟩ = some (.int .i64 x.k) ∧ w.cell? ⟨b, o + j * 5 + 4, none⟩ = some (.string x.r)) ∧ x.r.size ≤ maxLen
theorem isZ_nil (w : World) (a : Option Addr) (c : Nat) (hc : c ≤ maxLen) : IsZ w a c [] := ⟨Nat.zero_le _, hc, fun j p h => by simp at h⟩
theorem IsZ.turns {P : Nat → Prop} {w w' : World} {a : Option Addr} {c : Nat} {ss : List StP} (h : IsZ w a c ss) (t : Turns P w w') (hp : ∀ x, a = some x → ¬ P x.block) : IsZ w' a c ss := by
 refine ⟨h.1, h.2.1, fun j x hx => ?_⟩
 obtain ⟨b, o, ha, hlt, ⟨h0, h1, h2, h3, h4⟩, hs⟩ := h.2.2 j x hx
 have hn := hp ⟨b, o, none⟩ ha
 exact ⟨b, o, ha, Nat.lt_of_lt_of_le hlt t.size, ⟨t.cell (p := ⟨b, o + j * 5, none⟩) hn h0, t.cell (p := ⟨b, o + j * 5 + 1, none⟩) hn h1, t.cell (p := ⟨b, o + j * 5 + 2, none⟩) hn h2, t.cell (p := ⟨b, o + j * 5 + 3, none⟩) hn h3, t.cell (p := ⟨b, o + j * 5 + 4, none⟩) hn h4⟩, hs⟩
theorem IsZ.below {w w' : World} {a : Option Addr} {c : Nat} {ss : List StP} (h : IsZ w a c ss) (hb : Below w.heap.size w w') : IsZ w' a c ss :=
 h.turns (P := fun _ => False) (Turns.of_below hb) (fun _ _ x => x)
theorem IsZ.drew {w : World} {a : Option Addr} {c : Nat} {ss : List StP} (h : IsZ w a c ss) : IsZ w.drew a c ss := h.below (Below.refl _ _).drew
theorem IsZ.alloc {w : World} {a : Option Addr} {c : Nat} {ss : List StP} (h : IsZ w a c ss) (o : Obj) : IsZ (w.alloc o) a c ss := h.below ((Below.refl _ _).alloc (Nat.le_refl _) o)
theorem IsZ.take {w : World} {a : Option Addr} {c : Nat} {ss : List StP} (h : IsZ w a c ss) (n : Nat) : IsZ w a c (ss.take n) := by
 refine ⟨by rw [List.length_take]; have := h.1; omega, h.2.1, fun j x hx => h.2.2 j x ?_⟩
 rw [List.getElem?_take] at hx
 split at hx
 ·
  exact hx
 ·
  cases hx
theorem IsZ.size {w : World} {a : Option Addr} {c : Nat} {ss : List StP} (h : IsZ w a c ss) : ss.length ≤ 9223372036854775807 := Nat.le_trans h.1 h.2.1
theorem IsZ.text {w : World} {a : Option Addr} {c : Nat} {ss : List StP} (h : IsZ w a c ss) {j : Nat} {x : StP} (hx : ss[j]? = some x) : x.r.size ≤ maxLen := by
 obtain ⟨_, _, _, _, _, hs⟩ := h.2.2 j x hx
 exact hs
theorem IsZ.some {w : World} {a : Option Addr} {c : Nat} {ss : List StP} (h : IsZ w a c ss) (h0 : 0 < ss.length) : ∃ b o, a = Option.some ⟨b, o, none⟩ ∧ b < w.heap.size := by
 obtain ⟨b, o, ha, hl, _⟩ := h.2.2 0 ss[0] (List.getElem?_eq_getElem h0)
 exact ⟨b, o, ha, hl⟩
theorem IsZ.at {w : World} {b o c : Nat} {ss : List StP} (h : IsZ w (Option.some ⟨b, o, none⟩) c ss) {j : Nat} {x : StP} (hx : ss[j]? = Option.some x) :
  w.cell? ⟨b, o + j * 5, none⟩ = Option.some (.int .i64 x.i) ∧ w.cell? ⟨b, o + j * 5 + 1, none⟩ = Option.some (.int .i64 x.t) ∧ w.cell? ⟨b, o + j * 5 + 2, none⟩ = Option.some (.int .i64 x.d) ∧ w.cell? ⟨b, o + j * 5 + 3, none⟩ = Option.some (.int .i64 x.k) ∧ w.cell? ⟨b, o + j * 5 + 4, none⟩ = Option.some (.string x.r) := by
 obtain ⟨b', o', he, _, hc, _⟩ := h.2.2 j x hx
 cases he
 exact hc
theorem owned_isZ {w : World} {B : Nat} {v : Value} {n : Nat} {ss : List StP} (h : w.ownsRow B 52 5 v n (cellsZ ss)) (hn : n = ss.length) (hk : ∀ s ∈ ss, s.r.size ≤ maxLen) : ∃ a c, v = .slice a n c ∧ IsZ w a c ss ∧ From B a := by
 have hlt := h.lt
 have hcell := fun g => h.cells (g := g)
 rcases h.2 with ⟨rfl, rfl⟩ | ⟨g, cap, cur, rfl, hg, hh, hnc, hcm, hcs, htk⟩
 ·
  obtain rfl : ss = [] := List.length_eq_zero_iff.1 hn.symm
  exact ⟨none, 0, rfl, isZ_nil _ _ _ (Nat.zero_le _), from_nil _⟩
 ·
  have step : ∀ (j : Nat) u, (cellsZ ss)[j]? = some u → w.cell? ⟨g, 0 + j, none⟩ = some u := fun j u hu => by
   have := hcell g rfl j u hu
   rw [at_add] at this
   exact this
  refine ⟨_, _, rfl, ⟨by omega, hcm, fun j p hp => ⟨g, 0, rfl, (hlt g rfl).2, ?_, hk p (List.mem_of_getElem? hp)⟩⟩, fun x hx => by cases hx; exact hg⟩
  obtain ⟨c0, c1, c2, c3, c4⟩ := cellsZ_at hp
  exact ⟨step _ _ c0, step _ _ c1, step _ _ c2, step _ _ c3, step _ _ c4⟩
theorem Try.info52 : (Try.prog.info? 52).map (fun i => (i.zero, i.size, i.bytes)) = some (some (.agg #[.int .i64 0, .int .i64 0, .int .i64 0, .int .i64 0, .string ⟨#[]⟩]), 5, 48) := by kernel_rfl
theorem push_St (W : World) (base : Nat) (v : Value) (n : Nat) (l : List StP) (x : StP) (hown : W.ownsRow base 52 5 v n (cellsZ l)) (hb : base ≤ W.heap.size) (hn : n ≤ 100000) :
  ∃ g cap w', (Builtin.append_ #[25, 25] 25 #[v, .slice (some ⟨W.heap.size, 0, none⟩) 1 1]).run Try.prog (W.alloc (.cells #[.int .i64 x.i, .int .i64 x.t, .int .i64 x.d, .int .i64 x.k, .string x.r] 52)) = .ok (.slice (some ⟨g, 0, none⟩) (n + 1) cap) w' ∧
   w'.ownsRow base 52 5 (.slice (some ⟨g, 0, none⟩) (n + 1) cap) (n + 1) (cellsZ (l ++ [x])) ∧ (W.alloc (.cells #[.int .i64 x.i, .int .i64 x.t, .int .i64 x.d, .int .i64 x.k, .string x.r] 52)).grownBy w' v.ownBlock ∧ (v.ownBlock = some g ∨ g = W.heap.size + 1) ∧ base ≤ g ∧ g < w'.heap.size := by
 obtain ⟨i0, hi, hz0, hz1, hz2⟩ := info_parts Try.info52
 obtain ⟨g, cap, w', h1, h2, h3, h4, h5⟩ := run_append_lies (P := Try.prog) (W.alloc (.cells #[.int .i64 x.i, .int .i64 x.t, .int .i64 x.d, .int .i64 x.k, .string x.r] 52)) 25 25 base 52 i0 _ 5 48 Try.underlying25 hi hz0 hz1 hz2 rfl (by decide) v n (cellsZ l) (hown.alloc _) ⟨W.heap.size, 0, none⟩ 1 1 [.int .i64 x.i, .int .i64 x.t, .int .i64 x.d, .int .i64 x.k, .string x.r] rfl
  (by
   intro j u hj
   match j, hj with
   | 0, hj => simp at hj; subst hj; rw [at_add]; exact World.cell?_alloc_at _ _ _ _ rfl
   | 1, hj => simp at hj; subst hj; rw [at_add]; exact World.cell?_alloc_at _ _ _ _ rfl
   | 2, hj => simp at hj; subst hj; rw [at_add]; exact World.cell?_alloc_at _ _ _ _ rfl
   | 3, hj => simp at hj; subst hj; rw [at_add]; exact World.cell?_alloc_at _ _ _ _ rfl
   | 4, hj => simp at hj; subst hj; rw [at_add]; exact World.cell?_alloc_at _ _ _ _ rfl)
  (by intro u hu; simp at hu; rcases hu with rfl | rfl | rfl | rfl | rfl <;> rfl) (by omega) (by unfold maxLen; omega) (by omega) (by simp; omega) (W.heap.size + 1) (by simp)
 refine ⟨g, cap, w', h1, by rw [cellsZ_append]; exact h2, h3, h4, (h2.lt g rfl).1, h5⟩
theorem list_fiveZ {α : Type} (l : List α) (h : l.length = 5) : ∃ a b c d e, l = [a, b, c, d, e] := by
 match l, h with
 | [a, b, c, d, e], _ => exact ⟨a, b, c, d, e, rfl⟩
set_option maxRecDepth 20000 in
theorem open_Z {H : Type} {enc : TypeId × Value → H} {w : World} {fuel : Nat} {v : Value} {x : DataW H × List MemPlace}
  (hf : DataW.trod enc Try.prog w 0 (fun _ => true) true fuel 25 [v] = some x) :
  ∃ a c xs, v = .slice a xs.length c ∧ IsZ w a c xs := by
 have ce : Try.prog.cellsOf 52 = 5 := by kernel_rfl
 rcases Deep.open_slice Try.underlying25 hf with ⟨hcs, _⟩ | ⟨a, l, c, m, n, D, Pl, hcs, _, hl, hm, hmm, _, hcell⟩
 ·
  simp at hcs
  subst hcs
  exact ⟨none, 0, [], rfl, isZ_nil _ _ _ (Nat.zero_le _)⟩
 ·
  simp at hcs
  subst hcs
  simp at hmm
  have each : ∀ i, i < m → ∃ p : StP, w.cell? (a.add (i * 5)) = some (.int .i64 p.i) ∧ w.cell? (a.add (i * 5 + 1)) = some (.int .i64 p.t) ∧ w.cell? (a.add (i * 5 + 2)) = some (.int .i64 p.d) ∧ w.cell? (a.add (i * 5 + 3)) = some (.int .i64 p.k) ∧ w.cell? (a.add (i * 5 + 4)) = some (.string p.r) ∧ p.r.size ≤ maxLen := by
   intro i hi
   obtain ⟨cs', h1, h2⟩ := hcell i hi
   rw [ce] at h1
   obtain ⟨_, hlen, hc⟩ := World.cells?_some h1
   obtain ⟨xs, k, _, _, _, hlx, hg⟩ := DataW.trod_struct Try.underlying52 h2
   obtain ⟨v0, v1, v2, v3, v4, rfl⟩ := list_fiveZ cs' hlen
   obtain ⟨y0, y1, y2, y3, y4, rfl⟩ := list_fiveZ xs hlx
   have ci : Try.prog.cellsOf 9 = 1 := by kernel_rfl
   have cb : Try.prog.cellsOf 3 = 1 := by kernel_rfl
   have g0 := hg 0 _ rfl
   have g1 := hg 1 _ rfl
   have g2 := hg 2 _ rfl
   have g3 := hg 3 _ rfl
   have g4 := hg 4 _ rfl
   simp [ci, cb] at g0 g1 g2 g3 g4
   obtain ⟨x0, e0, _, _⟩ := DataW.trod_int (k := .i64) Try.underlying3 g0
   obtain ⟨x1, e1, _, _⟩ := DataW.trod_int (k := .i64) Try.underlying3 g1
   obtain ⟨x2, e2, _, _⟩ := DataW.trod_int (k := .i64) Try.underlying3 g2
   obtain ⟨x3, e3, _, _⟩ := DataW.trod_int (k := .i64) Try.underlying3 g3
   obtain ⟨x4, e4, _, s4⟩ := DataW.trod_string Try.underlying9 g4
   simp at e0 e1 e2 e3 e4
   subst e0 e1 e2 e3 e4
   have c0 := hc 0 (by omega)
   have c1 := hc 1 (by omega)
   have c2 := hc 2 (by omega)
   have c3 := hc 3 (by omega)
   have c4 := hc 4 (by omega)
   rw [Deep.add_add] at c0 c1 c2 c3 c4
   exact ⟨⟨x0, x1, x2, x3, x4⟩, by simpa using c0, by simpa using c1, by simpa using c2, by simpa using c3, by simpa using c4, s4⟩
  obtain ⟨q, hq⟩ := Deep.choose_lt (α := StP) each
  refine ⟨some a, c, (List.range l).map q, by simp, by simpa using hl, hm, fun j p hp => ?_⟩
  have hj : j < l := by simpa using (List.getElem?_eq_some_iff.1 hp).1
  rw [List.getElem?_map, List.getElem?_range hj] at hp
  obtain rfl : q j = p := Option.some.inj hp
  obtain ⟨h0, h1, h2, h3, h4, h5⟩ := hq j (by omega)
  obtain ⟨b, o, rfl, hb⟩ := spot_none (hq 0 (by omega)).1
  rw [at_add] at h0 h1 h2 h3 h4
  exact ⟨b, o, rfl, hb, ⟨h0, by rw [Nat.add_assoc]; exact h1, by rw [Nat.add_assoc]; exact h2, by rw [Nat.add_assoc]; exact h3, by rw [Nat.add_assoc]; exact h4⟩, h5⟩
end Go.Proofs.Ytdpljpjbomhccaa
namespace Go.Proofs.Ytdpljpjbomhccaa.Plain
set_option linter.unusedVariables false
structure TaskP where
 needs : List Int
 tries : Int
 wait : Int
 lease : Int
def needsAt (ts : List TaskP) (i : Nat) : List Int := (ts[i]?.map (·.needs)).getD []
def Inside (ts : List TaskP) : Prop := ∀ i, ∀ x ∈ needsAt ts i, 0 ≤ x ∧ x < ts.length
inductive Way (ts : List TaskP) : Nat → Nat → Prop
 | one {i j : Nat} : (j : Int) ∈ needsAt ts i → Way ts i j
 | more {i j k : Nat} : Way ts i j → (k : Int) ∈ needsAt ts j → Way ts i k
def Acyclic (ts : List TaskP) : Prop := ∀ i, ¬ Way ts i i
theorem nodupN_le : ∀ (N : Nat) (l : List Nat), l.Nodup → (∀ b ∈ l, b < N) → l.length ≤ N
 | 0, l, _, h => by
  cases l with
  | nil => exact Nat.le_refl _
  | cons b l => have := h b (by simp); omega
 | N + 1, l, hn, h => by
  by_cases hm : N ∈ l
  ·
   have h1 := nodupN_le N (l.erase N) (hn.erase _) (fun b hb => by
    have h2 := (List.Nodup.mem_erase_iff hn).1 hb
    have h3 := h b h2.2
    have h4 := h2.1
    omega)
   rw [List.length_erase_of_mem hm] at h1
   omega
  ·
   have := nodupN_le N l hn (fun b hb => by
    have h3 := h b hb
    have h4 : b ≠ N := fun e => hm (e ▸ hb)
    omega)
   omega
theorem one_free {ts : List TaskP} (ha : Acyclic ts) (hi : Inside ts) (done : Nat → Bool) (h : ∃ i, i < ts.length ∧ done i = false) :
  ∃ i, i < ts.length ∧ done i = false ∧ ∀ x ∈ needsAt ts i, done x.toNat = true := by
 refine Classical.byContradiction fun hno => ?_
 have step : ∀ i, i < ts.length → done i = false → ∃ j, j < ts.length ∧ done j = false ∧ (j : Int) ∈ needsAt ts i := by
  intro i hl hd
  refine Classical.byContradiction fun hn => hno ⟨i, hl, hd, fun x hx => ?_⟩
  obtain ⟨h0, h1⟩ := hi i x hx
  cases hb : done x.toNat with
  | true => rfl
  | false => exact absurd ⟨x.toNat, by omega, hb, by rw [Int.toNat_of_nonneg h0]; exact hx⟩ hn
 have chain : ∀ k, ∃ i l, l.length = k ∧ (i :: l).Nodup ∧ (∀ b ∈ i :: l, b < ts.length) ∧ done i = false ∧ ∀ b ∈ l, Way ts b i := by
  intro k
  induction k with
  | zero =>
   obtain ⟨i, hl, hd⟩ := h
   exact ⟨i, [], rfl, by simp, by simpa using hl, hd, by simp⟩
  | succ k ih =>
   obtain ⟨i, l, hk, hn, hb, hd, hw⟩ := ih
   obtain ⟨j, hl, hd2, hm⟩ := step i (hb i (by simp)) hd
   have hto : ∀ b ∈ i :: l, Way ts b j := by
    intro b hbm
    rcases List.mem_cons.1 hbm with rfl | hbm
    ·
     exact .one hm
    ·
     exact .more (hw b hbm) hm
   refine ⟨j, i :: l, by simp [hk], List.nodup_cons.2 ⟨fun hjm => ha j (hto j hjm), hn⟩, fun b hbm => ?_, hd2, hto⟩
   rcases List.mem_cons.1 hbm with rfl | hbm
   ·
    exact hl
   ·
    exact hb b hbm
 obtain ⟨i, l, hk, hn, hb, _, _⟩ := chain ts.length
 have := nodupN_le ts.length (i :: l) hn hb
 simp at this
 omega
theorem acyclic_of_rank {ts : List TaskP} (r : Nat → Nat) (h : ∀ i, ∀ x ∈ needsAt ts i, r x.toNat < r i) : Acyclic ts := by
 have hw : ∀ i j, Way ts i j → r j < r i := by
  intro i j h2
  induction h2 with
  | one h3 => have := h _ _ h3; simpa using this
  | more _ h3 ih => have := h _ _ h3; simp at this; omega
 exact fun i hi => by have := hw i i hi; omega
def onAt (o : List Bool) (j : Nat) : Bool := o[j]?.getD false
def setAll (o : List Bool) (xs : List Int) : List Bool := xs.foldl (fun o x => o.set x.toNat true) o
theorem setAll_nil (o : List Bool) : setAll o [] = o := rfl
theorem setAll_cons (o : List Bool) (x : Int) (xs : List Int) : setAll o (x :: xs) = setAll (o.set x.toNat true) xs := rfl
theorem setAll_append (o : List Bool) (xs ys : List Int) : setAll o (xs ++ ys) = setAll (setAll o xs) ys := by unfold setAll; rw [List.foldl_append]
theorem setAll_length (xs : List Int) : ∀ o : List Bool, (setAll o xs).length = o.length := by
 induction xs with
 | nil => intro o; rfl
 | cons x xs ih => intro o; rw [setAll_cons, ih, List.length_set]
theorem onAt_set (o : List Bool) (i j : Nat) (b : Bool) : onAt (o.set i b) j = if i = j ∧ j < o.length then b else onAt o j := by
 unfold onAt
 rw [List.getElem?_set]
 by_cases h : i = j
 ·
  subst h
  by_cases hl : i < o.length
  ·
   simp [hl]
  ·
   simp [hl]
 ·
  simp [h]
theorem onAt_setAll (xs : List Int) : ∀ (o : List Bool) (j : Nat), onAt (setAll o xs) j = true ↔ onAt o j = true ∨ (j < o.length ∧ ∃ x ∈ xs, x.toNat = j) := by
 induction xs with
 | nil => intro o j; simp [setAll_nil]
 | cons x xs ih =>
  intro o j
  rw [setAll_cons, ih, onAt_set, List.length_set]
  constructor
  ·
   rintro (h | ⟨hl, y, hy, e⟩)
   ·
    split at h
    ·
     rename_i hc; exact .inr ⟨hc.2, x, by simp, hc.1⟩
    ·
     exact .inl h
   ·
    exact .inr ⟨hl, y, by simp [hy], e⟩
  ·
   rintro (h | ⟨hl, y, hy, e⟩)
   ·
    left; split
    ·
     rfl
    ·
     exact h
   ·
    rcases List.mem_cons.1 hy with rfl | hy
    ·
     left; rw [if_pos ⟨e, hl⟩]
    ·
     exact .inr ⟨hl, y, hy, e⟩
theorem row_ext {o p : List Bool} (hl : o.length = p.length) (h : ∀ j, onAt o j = true ↔ onAt p j = true) : o = p := by
 apply List.ext_getElem hl
 intro i h1 h2
 have := h i
 unfold onAt at this
 rw [List.getElem?_eq_getElem h1, List.getElem?_eq_getElem h2] at this
 simp only [Option.getD_some] at this
 cases ha : o[i] <;> cases hb : p[i] <;> simp_all
def howMany (o : List Bool) : Nat := o.countP id
theorem howMany_le (o : List Bool) : howMany o ≤ o.length := List.countP_le_length
theorem howMany_mono : ∀ (o p : List Bool), o.length = p.length → (∀ j, onAt o j = true → onAt p j = true) → howMany o ≤ howMany p ∧ (howMany p ≤ howMany o → o = p)
 | [], [], _, _ => ⟨Nat.le_refl _, fun _ => rfl⟩
 | a :: o, b :: p, hl, h => by
  obtain ⟨i1, i2⟩ := howMany_mono o p (by simpa using hl) (fun j hj => by have := h (j + 1); simpa [onAt] using this (by simpa [onAt] using hj))
  have h0 := h 0
  simp only [onAt, List.getElem?_cons_zero, Option.getD_some] at h0
  unfold howMany at *
  cases a <;> cases b <;> simp_all <;> omega
 | [], b :: p, hl, _ => by simp at hl
 | a :: o, [], hl, _ => by simp at hl
def passN (ts : List TaskP) : Nat → List Bool → List Bool
 | 0, o => o
 | k + 1, o => if onAt (passN ts k o) k = true then setAll (passN ts k o) (needsAt ts k) else passN ts k o
def passR (ts : List TaskP) (o : List Bool) : List Bool := passN ts ts.length o
def roundsR (ts : List TaskP) : Nat → List Bool → List Bool
 | 0, o => o
 | k + 1, o => passR ts (roundsR ts k o)
def reachL (ts : List TaskP) (i : Nat) : List Bool := roundsR ts ts.length (setAll (List.replicate ts.length false) (needsAt ts i))
theorem passN_length (ts : List TaskP) (o : List Bool) : ∀ k, (passN ts k o).length = o.length
 | 0 => rfl
 | k + 1 => by
  unfold passN
  split
  ·
   rw [setAll_length, passN_length]
  ·
   exact passN_length ts o k
theorem passN_mono (ts : List TaskP) (o : List Bool) (j : Nat) : ∀ k, onAt o j = true → onAt (passN ts k o) j = true
 | 0, h => h
 | k + 1, h => by
  unfold passN
  split
  ·
   exact (onAt_setAll _ _ _).2 (.inl (passN_mono ts o j k h))
  ·
   exact passN_mono ts o j k h
theorem passN_up (ts : List TaskP) (o : List Bool) (j k : Nat) : ∀ m, onAt (passN ts k o) j = true → onAt (passN ts (k + m) o) j = true
 | 0, h => h
 | m + 1, h => by
  have ih := passN_up ts o j k m h
  show onAt (passN ts (k + m + 1) o) j = true
  unfold passN
  split
  ·
   exact (onAt_setAll _ _ _).2 (.inl ih)
  ·
   exact ih
def ClosedR (ts : List TaskP) (o : List Bool) : Prop := ∀ i, i < ts.length → onAt o i = true → ∀ x ∈ needsAt ts i, onAt o x.toNat = true
theorem closed_of_pass {ts : List TaskP} {o : List Bool} (hi : Inside ts) (hl : o.length = ts.length) (h : passR ts o = o) : ClosedR ts o := by
 intro i hlt ho x hx
 obtain ⟨h0, h1⟩ := hi i x hx
 have e : onAt (passN ts (i + 1) o) x.toNat = true := by
  unfold passN
  rw [if_pos (passN_mono ts o i i ho)]
  exact (onAt_setAll _ _ _).2 (.inr ⟨by rw [passN_length]; omega, x, hx, rfl⟩)
 have := passN_up ts o x.toNat (i + 1) (ts.length - (i + 1)) e
 rw [show i + 1 + (ts.length - (i + 1)) = ts.length by omega] at this
 rw [← h]
 exact this
theorem pass_of_closed {ts : List TaskP} {o : List Bool} (hc : ClosedR ts o) : ∀ k, k ≤ ts.length → passN ts k o = o
 | 0, _ => rfl
 | k + 1, hk => by
  have ih := pass_of_closed hc k (by omega)
  unfold passN
  rw [ih]
  split
  ·
   rename_i ho
   refine row_ext (setAll_length _ _) fun j => ?_
   rw [onAt_setAll]
   constructor
   ·
    rintro (h | ⟨_, x, hx, rfl⟩)
    ·
     exact h
    ·
     exact hc k (by omega) ho x hx
   ·
    exact .inl
  ·
   rfl
theorem roundsR_length (ts : List TaskP) (o : List Bool) : ∀ k, (roundsR ts k o).length = o.length
 | 0 => rfl
 | k + 1 => by unfold roundsR passR; rw [passN_length, roundsR_length]
theorem rounds_closed {ts : List TaskP} {o : List Bool} (hi : Inside ts) (hl : o.length = ts.length) : ClosedR ts (roundsR ts ts.length o) := by
 have key : ∀ k, ClosedR ts (roundsR ts k o) ∨ k ≤ howMany (roundsR ts k o) := by
  intro k
  induction k with
  | zero => exact .inr (Nat.zero_le _)
  | succ k ih =>
   have hlk : (roundsR ts k o).length = ts.length := by rw [roundsR_length, hl]
   rcases ih with hc | hk
   ·
    left
    show ClosedR ts (passR ts (roundsR ts k o))
    unfold passR
    rw [pass_of_closed hc _ (Nat.le_refl _)]
    exact hc
   ·
    obtain ⟨h1, h2⟩ := howMany_mono (roundsR ts k o) (roundsR ts (k + 1) o) (by rw [roundsR_length, roundsR_length]) (fun j hj => passN_mono ts _ j ts.length hj)
    by_cases hle : howMany (roundsR ts (k + 1) o) ≤ howMany (roundsR ts k o)
    ·
     left
     have e := h2 hle
     have hc : ClosedR ts (roundsR ts k o) := closed_of_pass hi hlk e.symm
     rw [← e]
     exact hc
    ·
     right
     omega
 rcases key ts.length with h | h
 ·
  exact h
 ·
  have h1 := howMany_le (roundsR ts ts.length o)
  have hlk : (roundsR ts ts.length o).length = ts.length := by rw [roundsR_length, hl]
  intro i hlt _ x hx
  obtain ⟨h0, hx1⟩ := hi i x hx
  have hall : ∀ b ∈ roundsR ts ts.length o, id b = true := List.countP_eq_length.1 (by unfold howMany at *; omega)
  unfold onAt
  rw [List.getElem?_eq_getElem (by rw [hlk]; omega)]
  exact hall _ (List.getElem_mem _)
theorem pass_sound {ts : List TaskP} {o : List Bool} (hi : Inside ts) (i : Nat) (h : ∀ j, onAt o j = true → Way ts i j) : ∀ k j, onAt (passN ts k o) j = true → Way ts i j
 | 0, j, hj => h j hj
 | k + 1, j, hj => by
  unfold passN at hj
  split at hj
  ·
   rename_i ho
   rcases (onAt_setAll _ _ _).1 hj with hj | ⟨_, x, hx, rfl⟩
   ·
    exact pass_sound hi i h k j hj
   ·
    refine .more (pass_sound hi i h k k ho) ?_
    rw [Int.toNat_of_nonneg (hi k x hx).1]
    exact hx
  ·
   exact pass_sound hi i h k j hj
theorem rounds_sound {ts : List TaskP} {o : List Bool} (hi : Inside ts) (i : Nat) (h : ∀ j, onAt o j = true → Way ts i j) : ∀ k j, onAt (roundsR ts k o) j = true → Way ts i j
 | 0, j, hj => h j hj
 | k + 1, j, hj => pass_sound hi i (rounds_sound hi i h k) ts.length j hj
theorem rounds_mono (ts : List TaskP) (o : List Bool) (j : Nat) : ∀ k, onAt o j = true → onAt (roundsR ts k o) j = true
 | 0, h => h
 | k + 1, h => passN_mono ts _ j ts.length (rounds_mono ts o j k h)
theorem onAt_zeros (n j : Nat) : onAt (List.replicate n false) j = false := by
 unfold onAt
 rw [List.getElem?_replicate]
 split <;> rfl
theorem way_lt {ts : List TaskP} (hi : Inside ts) {i j : Nat} (h : Way ts i j) : j < ts.length := by
 cases h with
 | one h => have := (hi _ _ h).2; omega
 | more _ h => have := (hi _ _ h).2; omega
theorem reach_iff {ts : List TaskP} (hi : Inside ts) (i j : Nat) : onAt (reachL ts i) j = true ↔ Way ts i j := by
 have hl : (setAll (List.replicate ts.length false) (needsAt ts i)).length = ts.length := by rw [setAll_length, List.length_replicate]
 constructor
 ·
  refine rounds_sound hi i (fun j hj => ?_) _ j
  rcases (onAt_setAll _ _ _).1 hj with h | ⟨_, x, hx, rfl⟩
  ·
   rw [onAt_zeros] at h; cases h
  ·
   refine .one ?_
   rw [Int.toNat_of_nonneg (hi i x hx).1]
   exact hx
 ·
  intro h
  induction h with
  | one h => exact rounds_mono ts _ _ _ ((onAt_setAll _ _ _).2 (.inr ⟨by rw [List.length_replicate]; have := (hi _ _ h).2; omega, _, h, by simp⟩))
  | more h1 h2 ih =>
   have := rounds_closed hi hl _ (way_lt hi h1) ih _ h2
   rw [Int.toNat_natCast] at this
   exact this
def freeB (ts : List TaskP) (done : List Bool) (i : Nat) : Bool := !onAt done i && (needsAt ts i).all fun x => onAt done x.toNat
theorem freeB_iff (ts : List TaskP) (done : List Bool) (i : Nat) : freeB ts done i = true ↔ onAt done i = false ∧ ∀ x ∈ needsAt ts i, onAt done x.toNat = true := by
 unfold freeB
 rw [Bool.and_eq_true, List.all_eq_true]
 simp
def freeL (ts : List TaskP) (done : List Bool) : List Nat := (List.range ts.length).filter (freeB ts done)
theorem mem_freeL {ts : List TaskP} {done : List Bool} {i : Nat} : i ∈ freeL ts done ↔ i < ts.length ∧ freeB ts done i = true := by
 unfold freeL
 rw [List.mem_filter, List.mem_range]
def ordD (ts : List TaskP) : Nat → List Bool × List Nat
 | 0 => (List.replicate ts.length false, [])
 | k + 1 => match freeL ts (ordD ts k).1 with
  | [] => ordD ts k
  | x :: _ => ((ordD ts k).1.set x true, (ordD ts k).2 ++ [x])
def orderL (ts : List TaskP) : List Nat := (ordD ts ts.length).2
theorem ordD_nil {ts : List TaskP} {k : Nat} (h : freeL ts (ordD ts k).1 = []) : ordD ts (k + 1) = ordD ts k := by
 show (match freeL ts (ordD ts k).1 with | [] => _ | x :: _ => _) = _
 rw [h]
theorem ordD_cons {ts : List TaskP} {k x : Nat} {l : List Nat} (h : freeL ts (ordD ts k).1 = x :: l) : ordD ts (k + 1) = ((ordD ts k).1.set x true, (ordD ts k).2 ++ [x]) := by
 show (match freeL ts (ordD ts k).1 with | [] => _ | x :: _ => _) = _
 rw [h]
structure OrdAt (ts : List TaskP) (o : List Bool) (l : List Nat) : Prop where
 len : o.length = ts.length
 many : howMany o = l.length
 nodup : l.Nodup
 mem : ∀ x, onAt o x = true ↔ x ∈ l
 lt : ∀ x ∈ l, x < ts.length
 behind : ∀ i x, l[i]? = some x → ∀ y ∈ needsAt ts x, y.toNat ∈ l.take i
theorem ordAt_zero (ts : List TaskP) : OrdAt ts (List.replicate ts.length false) [] :=
 ⟨by simp, by unfold howMany; rw [List.countP_replicate]; rfl, by simp, fun x => by rw [onAt_zeros]; simp, by simp, by simp⟩
theorem howMany_set {o : List Bool} {x : Nat} (hl : x < o.length) (h : onAt o x = false) : howMany (o.set x true) = howMany o + 1 := by
 have hx : o[x] = false := by
  unfold onAt at h
  rw [List.getElem?_eq_getElem hl] at h
  exact h
 unfold howMany
 rw [List.countP_set hl, hx]
 simp
theorem OrdAt.step {ts : List TaskP} {o : List Bool} {l : List Nat} (h : OrdAt ts o l) {x : Nat} (hx : x < ts.length) (hf : freeB ts o x = true) : OrdAt ts (o.set x true) (l ++ [x]) := by
 obtain ⟨h1, h2⟩ := (freeB_iff ts o x).1 hf
 have hn : x ∉ l := fun hm => by rw [(h.mem x).2 hm] at h1; cases h1
 refine ⟨by rw [List.length_set, h.len], ?_, ?_, fun y => ?_, fun y hy => ?_, fun i y hy z hz => ?_⟩
 ·
  rw [howMany_set (by rw [h.len]; exact hx) h1, h.many]; simp
 ·
  rw [List.nodup_append]
  exact ⟨h.nodup, by simp, fun a ha b hb => by simp at hb; subst hb; exact fun e => hn (e ▸ ha)⟩
 ·
  rw [onAt_set, List.mem_append, List.mem_singleton]
  constructor
  ·
   intro hy
   split at hy
   ·
    rename_i hc; exact .inr hc.1.symm
   ·
    exact .inl ((h.mem y).1 hy)
  ·
   rintro (hy | rfl)
   ·
    split
    ·
     rfl
    ·
     exact (h.mem y).2 hy
   ·
    rw [if_pos ⟨rfl, by rw [h.len]; exact hx⟩]
 ·
  rcases List.mem_append.1 hy with hy | hy
  ·
   exact h.lt y hy
  ·
   simp at hy; subst hy; exact hx
 ·
  by_cases hi : i < l.length
  ·
   rw [List.getElem?_append_left hi] at hy
   rw [List.take_append_of_le_length (by omega)]
   exact h.behind i y hy z hz
  ·
   have hi2 : i = l.length := by
    have := (List.getElem?_eq_some_iff.1 hy).1
    simp at this
    omega
   subst hi2
   rw [List.getElem?_append_right (Nat.le_refl _)] at hy
   simp at hy
   subst hy
   rw [List.take_append_of_le_length (Nat.le_refl _), List.take_length]
   exact (h.mem _).1 (h2 z hz)
theorem ordD_at (ts : List TaskP) : ∀ k, OrdAt ts (ordD ts k).1 (ordD ts k).2
 | 0 => ordAt_zero ts
 | k + 1 => by
  have ih := ordD_at ts k
  cases hf : freeL ts (ordD ts k).1 with
  | nil => rw [ordD_nil hf]; exact ih
  | cons x l =>
   rw [ordD_cons hf]
   have hm := mem_freeL.1 (show x ∈ freeL ts (ordD ts k).1 by rw [hf]; simp)
   exact ih.step hm.1 hm.2
theorem some_left {o : List Bool} (h : howMany o < o.length) : ∃ i, i < o.length ∧ onAt o i = false := by
 refine Classical.byContradiction fun hn => ?_
 have hall : ∀ b ∈ o, id b = true := by
  intro b hb
  obtain ⟨i, hi, rfl⟩ := List.getElem_of_mem hb
  cases hc : o[i] with
  | true => rfl
  | false => exact absurd ⟨i, hi, by unfold onAt; rw [List.getElem?_eq_getElem hi]; exact hc⟩ hn
 have := List.countP_eq_length.2 hall
 unfold howMany at h
 omega
theorem free_left {ts : List TaskP} (ha : Acyclic ts) (hi : Inside ts) {o : List Bool} (hl : o.length = ts.length) (h : ∃ i, i < ts.length ∧ onAt o i = false) : freeL ts o ≠ [] := by
 obtain ⟨i, hlt, h1, h2⟩ := one_free ha hi (onAt o) h
 intro e
 have : i ∈ freeL ts o := mem_freeL.2 ⟨hlt, (freeB_iff ts o i).2 ⟨h1, h2⟩⟩
 rw [e] at this
 cases this
theorem ordD_len {ts : List TaskP} (ha : Acyclic ts) (hi : Inside ts) : ∀ k, k ≤ ts.length → (ordD ts k).2.length = k
 | 0, _ => rfl
 | k + 1, hk => by
  have ih := ordD_len ha hi k (by omega)
  have hat := ordD_at ts k
  cases hf : freeL ts (ordD ts k).1 with
  | nil => exact absurd hf (free_left ha hi hat.len (by have := some_left (o := (ordD ts k).1) (by rw [hat.many, ih, hat.len]; omega); rw [hat.len] at this; exact this))
  | cons x l => rw [ordD_cons hf]; simp [ih]
theorem orderL_len {ts : List TaskP} (ha : Acyclic ts) (hi : Inside ts) : (orderL ts).length = ts.length := ordD_len ha hi _ (Nat.le_refl _)
theorem all_done {ts : List TaskP} {o : List Bool} (hl : o.length = ts.length) (h : howMany o = ts.length) : ∀ i, i < ts.length → onAt o i = true := by
 intro i hi
 have hall : ∀ b ∈ o, id b = true := List.countP_eq_length.1 (by unfold howMany at h; omega)
 unfold onAt
 rw [List.getElem?_eq_getElem (by omega)]
 exact hall _ (List.getElem_mem _)
theorem acyclic_of_order {ts : List TaskP} {o : List Bool} {l : List Nat} (h : OrdAt ts o l) (hl : l.length = ts.length) : Acyclic ts := by
 have hall := all_done h.len (by rw [h.many, hl])
 refine acyclic_of_rank (fun x => l.idxOf x) fun i x hx => ?_
 by_cases hi : i < ts.length
 ·
  have hm : i ∈ l := (h.mem i).1 (hall i hi)
  have hlt := List.idxOf_lt_length_of_mem hm
  have hb := h.behind (l.idxOf i) i (by rw [List.getElem?_eq_getElem hlt]; simp) x hx
  have h2 : List.idxOf x.toNat (l.take (l.idxOf i)) < (l.take (l.idxOf i)).length := List.idxOf_lt_length_of_mem hb
  have h3 : l.idxOf x.toNat = (l.take (l.idxOf i)).idxOf x.toNat := by
   conv => lhs; rw [← List.take_append_drop (l.idxOf i) l]
   rw [List.idxOf_append, if_pos hb]
  rw [List.length_take] at h2
  show l.idxOf x.toNat < l.idxOf i
  omega
 ·
  exfalso
  unfold needsAt at hx
  rw [List.getElem?_eq_none (by omega)] at hx
  cases hx
theorem acyclic_iff {ts : List TaskP} (hi : Inside ts) : Acyclic ts ↔ (orderL ts).length = ts.length :=
 ⟨fun ha => orderL_len ha hi, fun h => acyclic_of_order (ordD_at ts ts.length) h⟩
theorem cyclic_iff {ts : List TaskP} (hi : Inside ts) : Acyclic ts ↔ ∀ i, i < ts.length → onAt (reachL ts i) i = false := by
 constructor
 ·
  intro ha i _
  cases h : onAt (reachL ts i) i with
  | false => rfl
  | true => exact absurd ((reach_iff hi i i).1 h) (ha i)
 ·
  intro h i hw
  have := h i (way_lt hi hw)
  rw [(reach_iff hi i i).2 hw] at this
  cases this
def needsB (n : Int) : Int → List Int → Bool
 | _, [] => true
 | l, x :: xs => decide (l ≤ x) && decide (x < n) && needsB n (x + 1) xs
def nextN : Int → List Int → Int
 | l, [] => l
 | _, x :: xs => nextN (x + 1) xs
theorem nextN_append (l : Int) (xs : List Int) (x : Int) : nextN l (xs ++ [x]) = x + 1 := by
 induction xs generalizing l with
 | nil => rfl
 | cons y ys ih => exact ih (y + 1)
theorem needsB_append (n l : Int) (xs ys : List Int) : needsB n l (xs ++ ys) = (needsB n l xs && needsB n (nextN l xs) ys) := by
 induction xs generalizing l with
 | nil => simp [needsB, nextN]
 | cons y zs ih => simp only [List.cons_append, needsB, nextN, ih, Bool.and_assoc]
theorem needsB_take {n l : Int} {xs : List Int} {j : Nat} {x : Int} (hx : xs[j]? = some x) (h : needsB n l (xs.take j) = true) (h1 : nextN l (xs.take j) ≤ x) (h2 : x < n) : needsB n l (xs.take (j + 1)) = true := by
 rw [List.take_add_one, hx, needsB_append, h]
 simp [needsB, h1, h2]
theorem nextN_take {l : Int} {xs : List Int} {j : Nat} {x : Int} (hx : xs[j]? = some x) : nextN l (xs.take (j + 1)) = x + 1 := by
 rw [List.take_add_one, hx]
 exact nextN_append _ _ _
theorem needsB_bad {n l : Int} {xs : List Int} {j : Nat} {x : Int} (hx : xs[j]? = some x) (h1 : ¬ (nextN l (xs.take j) ≤ x ∧ x < n)) : needsB n l xs = false := by
 have e : xs = xs.take j ++ x :: xs.drop (j + 1) := by
  have hj := (List.getElem?_eq_some_iff.1 hx).1
  have hv : xs[j] = x := by rw [List.getElem?_eq_getElem hj] at hx; exact Option.some.inj hx
  rw [← hv, List.getElem_cons_drop, List.take_append_drop]
 rw [e, needsB_append]
 simp only [needsB]
 by_cases h2 : nextN l (xs.take j) ≤ x
 ·
  have h3 : ¬ x < n := fun h => h1 ⟨h2, h⟩
  simp [h3]
 ·
  simp [h2]
theorem needsB_in {n : Int} : ∀ {l : Int} {xs : List Int}, needsB n l xs = true → 0 ≤ l → ∀ x ∈ xs, 0 ≤ x ∧ x < n := by
 intro l xs
 induction xs generalizing l with
 | nil => intro _ _ x hx; cases hx
 | cons y ys ih =>
  intro h h0 x hx
  simp only [needsB, Bool.and_eq_true, decide_eq_true_eq] at h
  rcases List.mem_cons.1 hx with rfl | hx
  ·
   omega
  ·
   exact ih h.2 (by omega) x hx
theorem needsB_from {n l : Int} {xs : List Int} (h : needsB n l xs = true) : l ≤ nextN l xs := by
 induction xs generalizing l with
 | nil => exact Int.le_refl _
 | cons y ys ih =>
  simp only [needsB, Bool.and_eq_true, decide_eq_true_eq] at h
  have := ih h.2
  show l ≤ nextN (y + 1) ys
  omega
theorem needsB_len {n : Int} : ∀ {l : Int} {xs : List Int}, needsB n l xs = true → (xs.length : Int) ≤ n - l ∨ xs = [] := by
 intro l xs
 induction xs generalizing l with
 | nil => intro _; exact .inr rfl
 | cons y ys ih =>
  intro h
  simp only [needsB, Bool.and_eq_true, decide_eq_true_eq] at h
  rcases ih h.2 with h1 | rfl
  ·
   left; simp; omega
  ·
   left; simp; omega
def taskB (n : Int) (t : TaskP) : Bool := needsB n 0 t.needs && decide (1 ≤ t.tries ∧ t.tries ≤ 8 ∧ 0 ≤ t.wait ∧ t.wait ≤ 1048576 ∧ 1 ≤ t.lease ∧ t.lease ≤ 1048576)
theorem taskB_iff (n : Int) (t : TaskP) : taskB n t = true ↔ needsB n 0 t.needs = true ∧ 1 ≤ t.tries ∧ t.tries ≤ 8 ∧ 0 ≤ t.wait ∧ t.wait ≤ 1048576 ∧ 1 ≤ t.lease ∧ t.lease ≤ 1048576 := by
 unfold taskB
 rw [Bool.and_eq_true, decide_eq_true_iff]
def tasksB (ts : List TaskP) : Bool := ts.all (taskB ts.length)
theorem tasksB_bad {ts : List TaskP} {j : Nat} {t : TaskP} (h : ts[j]? = some t) (hb : taskB ts.length t = false) : tasksB ts = false := by
 unfold tasksB
 rw [List.all_eq_false]
 exact ⟨t, List.mem_of_getElem? h, by rw [hb]; decide⟩
def TasksTo (n : Int) (ts : List TaskP) (j : Nat) : Prop := ∀ i t, i < j → ts[i]? = some t → taskB n t = true
theorem tasksTo_all {ts : List TaskP} (h : TasksTo ts.length ts ts.length) : tasksB ts = true := by
 unfold tasksB
 rw [List.all_eq_true]
 intro t ht
 obtain ⟨i, hi, rfl⟩ := List.getElem_of_mem ht
 exact h i _ hi (List.getElem?_eq_getElem hi)
theorem tasksTo_succ {n : Int} {ts : List TaskP} {j : Nat} {t : TaskP} (h : TasksTo n ts j) (ht : ts[j]? = some t) (hb : taskB n t = true) : TasksTo n ts (j + 1) := by
 intro i u hi hu
 by_cases hij : i = j
 ·
  subst hij; rw [ht] at hu; cases hu; exact hb
 ·
  exact h i u (by omega) hu
theorem tasksB_at {ts : List TaskP} (h : tasksB ts = true) {j : Nat} {t : TaskP} (ht : ts[j]? = some t) : taskB ts.length t = true := List.all_eq_true.1 h t (List.mem_of_getElem? ht)
theorem tasksB_inside {ts : List TaskP} (h : tasksB ts = true) : Inside ts := by
 intro i x hx
 unfold needsAt at hx
 cases ht : ts[i]? with
 | none => rw [ht] at hx; cases hx
 | some t =>
  rw [ht] at hx
  exact needsB_in ((taskB_iff _ _).1 (tasksB_at h ht)).1 (Int.le_refl _) x hx
def nameB (s : ByteArray) : Bool := decide (1 ≤ s.size ∧ s.size ≤ 16)
def rightG (s : ByteArray) (ts : List TaskP) : Int :=
 if 10 < ts.length then 2 else if nameB s && decide (0 < ts.length) && tasksB ts then (if (orderL ts).length < ts.length then 160 else 0) else 1
theorem rightG_long {s : ByteArray} {ts : List TaskP} (h : 10 < ts.length) : rightG s ts = 2 := if_pos h
theorem rightG_arg {s : ByteArray} {ts : List TaskP} (h : ¬ 10 < ts.length) (h2 : (nameB s && decide (0 < ts.length) && tasksB ts) = false) : rightG s ts = 1 := by unfold rightG; rw [if_neg h, h2]; rfl
theorem rightG_cycle {s : ByteArray} {ts : List TaskP} (h : ¬ 10 < ts.length) (h2 : (nameB s && decide (0 < ts.length) && tasksB ts) = true) (h3 : (orderL ts).length < ts.length) : rightG s ts = 160 := by unfold rightG; rw [if_neg h, if_pos h2, if_pos h3]
theorem rightG_zero {s : ByteArray} {ts : List TaskP} (h : ¬ 10 < ts.length) (h2 : (nameB s && decide (0 < ts.length) && tasksB ts) = true) (h3 : ¬ (orderL ts).length < ts.length) : rightG s ts = 0 := by unfold rightG; rw [if_neg h, if_pos h2, if_neg h3]
theorem rightG_ok {s : ByteArray} {ts : List TaskP} (h : rightG s ts = 0) : ts.length ≤ 10 ∧ (1 ≤ s.size ∧ s.size ≤ 16) ∧ 0 < ts.length ∧ tasksB ts = true ∧ (orderL ts).length = ts.length ∧ Acyclic ts ∧ Inside ts := by
 unfold rightG at h
 split at h
 ·
  cases h
 ·
  split at h
  ·
   rename_i h1 h2
   rw [Bool.and_eq_true, Bool.and_eq_true, decide_eq_true_eq] at h2
   unfold nameB at h2
   rw [decide_eq_true_eq] at h2
   split at h
   ·
    cases h
   ·
    rename_i h3
    have hle : (orderL ts).length ≤ ts.length := by
     have hat := ordD_at ts ts.length
     have := howMany_le (ordD ts ts.length).1
     rw [hat.many, hat.len] at this
     exact this
    have he : (orderL ts).length = ts.length := by omega
    have hi := tasksB_inside h2.2
    exact ⟨by omega, h2.1.1, h2.1.2, h2.2, he, (acyclic_iff hi).2 he, hi⟩
  ·
   cases h
theorem ordD_stop {ts : List TaskP} {k : Nat} (h : freeL ts (ordD ts k).1 = []) : ∀ m, ordD ts (k + m) = ordD ts k
 | 0 => rfl
 | m + 1 => by
  have ih := ordD_stop h m
  have : freeL ts (ordD ts (k + m)).1 = [] := by rw [ih]; exact h
  rw [← Nat.add_assoc, ordD_nil this, ih]
theorem orderL_stop {ts : List TaskP} {k : Nat} (hk : k ≤ ts.length) (h : freeL ts (ordD ts k).1 = []) : orderL ts = (ordD ts k).2 := by
 have := ordD_stop h (ts.length - k)
 unfold orderL
 rw [show k + (ts.length - k) = ts.length by omega] at this
 rw [this]
end Go.Proofs.Ytdpljpjbomhccaa.Plain
namespace Go.Proofs.Ytdpljpjbomhccaa.Plain
open Go.RowKit
set_option linter.unusedVariables false
def isAt (ss : List StP) (x : Nat) : Int := (ss[x]?.map (·.i)).getD 0
def hasK (ss : List StP) (k : Int) : Bool := ss.any fun s => decide (s.i = k)
def openS (ss : List StP) : Bool := hasK ss 0 || hasK ss 1 || hasK ss 2
def readyI (ts : List TaskP) (ss : List StP) (i : Nat) : Bool := (needsAt ts i).all fun x => decide (isAt ss x.toNat = 3)
def fitsS (ss : List StP) (is : Int) : Bool :=
 if openS ss = false ∧ hasK ss 4 = false ∧ hasK ss 5 = false then decide (is = 1)
 else if hasK ss 4 = true then decide (is = 2) && !openS ss
 else if openS ss = false then decide (is = 3)
 else decide (is = 0) && !hasK ss 5
structure StateAt (ts : List TaskP) (ss : List StP) (i : Nat) (s : StP) (t : TaskP) : Prop where
 right : rightT t.tries s = true
 token : ∀ k u, k < i → ss[k]? = some u → 0 < s.k → u.k ≠ s.k
 waits : s.i = 0 → readyI ts ss i = false
 past : s.i ≠ 0 → s.i ≠ 5 → readyI ts ss i = true
structure RightS (ts : List TaskP) (ss : List StP) (is : Int) : Prop where
 len : ss.length = ts.length
 fits : fitsS ss is = true
 each : ∀ (i : Nat) s t, ss[i]? = some s → ts[i]? = some t → StateAt ts ss i s t
structure LooseS (ts : List TaskP) (ss : List StP) : Prop where
 len : ss.length = ts.length
 right : ∀ (i : Nat) s t, ss[i]? = some s → ts[i]? = some t → rightT t.tries s = true
 token : ∀ (i k : Nat) s u, k ≠ i → ss[i]? = some s → ss[k]? = some u → 0 < s.k → u.k ≠ s.k
 past : ∀ (i : Nat) s, ss[i]? = some s → s.i ≠ 0 → readyI ts ss i = true
 here : hasK ss 5 = false
def mendS (ts : List TaskP) (ss : List StP) (is : Int) : List StP × Int :=
 if hasK ss 4 = true then (ss.map cancelT, 2)
 else (ss.mapIdx fun i s => if readyI ts ss i then readyT s else s, if (ss.mapIdx fun i s => if readyI ts ss i then readyT s else s).all (fun s => decide (s.i = 3)) then 1 else is)
theorem hasK_iff (ss : List StP) (k : Int) : hasK ss k = true ↔ ∃ (i : Nat) (s : StP), ss[i]? = some s ∧ s.i = k := by
 unfold hasK
 rw [List.any_eq_true]
 constructor
 ·
  rintro ⟨s, hs, h⟩
  obtain ⟨i, hi, rfl⟩ := List.getElem_of_mem hs
  exact ⟨i, _, List.getElem?_eq_getElem hi, by simpa using h⟩
 ·
  rintro ⟨i, s, hs, h⟩
  exact ⟨s, List.mem_of_getElem? hs, by simpa using h⟩
theorem hasK_not {ss : List StP} {k : Int} (h : hasK ss k = false) {i : Nat} {s : StP} (hs : ss[i]? = some s) : s.i ≠ k := fun e => by
 have := (hasK_iff ss k).2 ⟨i, s, hs, e⟩
 rw [h] at this
 cases this
theorem isAt_some {ss : List StP} {x : Nat} {s : StP} (h : ss[x]? = some s) : isAt ss x = s.i := by unfold isAt; rw [h]; rfl
theorem ready_same {ts : List TaskP} {ss ss' : List StP} (h : ∀ x, isAt ss x = 3 ↔ isAt ss' x = 3) (i : Nat) : readyI ts ss i = readyI ts ss' i := by
 unfold readyI
 congr 1
 funext x
 rw [Bool.eq_iff_iff, decide_eq_true_iff, decide_eq_true_iff]
 exact h x.toNat
theorem ready_more {ts : List TaskP} {ss ss' : List StP} (h : ∀ x, isAt ss x = 3 → isAt ss' x = 3) {i : Nat} (hr : readyI ts ss i = true) : readyI ts ss' i = true := by
 unfold readyI at *
 rw [List.all_eq_true] at *
 intro x hx
 have := hr x hx
 rw [decide_eq_true_iff] at *
 exact h _ this
theorem right_kind {tr : Int} {s : StP} (h : rightT tr s = true) : 0 ≤ s.i ∧ s.i ≤ 5 := ((standT_iff s).1 (right_parts h).1).1
theorem all_doneS {ts : List TaskP} {ss : List StP} (hr : ∀ (i : Nat) s, ss[i]? = some s → 0 ≤ s.i ∧ s.i ≤ 5) (h : openS ss = false) (h4 : hasK ss 4 = false) (h5 : hasK ss 5 = false) {i : Nat} {s : StP} (hs : ss[i]? = some s) : s.i = 3 := by
 unfold openS at h
 rw [Bool.or_eq_false_iff, Bool.or_eq_false_iff] at h
 have a := hasK_not h.1.1 hs
 have b := hasK_not h.1.2 hs
 have c := hasK_not h.2 hs
 have d := hasK_not h4 hs
 have e := hasK_not h5 hs
 have := hr i s hs
 omega
theorem cancel_i (s : StP) : (cancelT s).i = if s.i = 0 ∨ s.i = 1 ∨ s.i = 2 then 5 else s.i := by
 unfold cancelT
 split <;> rfl
theorem cancel_k {tr : Int} {s : StP} (h : rightT tr s = true) : (cancelT s).k = 0 := by
 unfold cancelT
 split
 ·
  rfl
 ·
  rename_i hn
  exact ((standT_iff s).1 (right_parts h).1).2.2.2.1.2 (fun e => hn (.inr (.inr e)))
theorem ready_i (s : StP) : (readyT s).i = if s.i = 0 then 1 else s.i := by
 unfold readyT
 split <;> rfl
theorem right_ready' {tr : Int} {s : StP} (h1 : 1 ≤ tr) (h : rightT tr s = true) : rightT tr (readyT s) = true ∧ (readyT s).k = s.k := by
 unfold readyT
 by_cases h0 : s.i = 0
 ·
  rw [if_pos h0]
  refine ⟨?_, rfl⟩
  obtain ⟨a, b⟩ := right_parts h
  obtain ⟨h1', h2, h3, h4, h5, h6, h7⟩ := (standT_iff s).1 a
  obtain ⟨g1, g2, g3, g4, g5, g6⟩ := (restT_iff tr s).1 b
  have h7' := h7 (by omega)
  have g2' := g2 h0
  have hk := h4.2 (by omega)
  refine right_of ?_ ?_ ?_ ?_ ?_ ?_ ?_ ?_ ?_ ?_ ?_ ?_ ?_ <;> first
   | exact h6
   | exact fun _ => h7'
   | (simp; done)
   | (simp; omega)
   | (simp only []; omega)
 ·
  rw [if_neg h0]
  exact ⟨h, rfl⟩
theorem isAt_map {ss : List StP} (f : Nat → StP → StP) (x : Nat) : isAt (ss.mapIdx f) x = (ss[x]?.map fun s => (f x s).i).getD 0 := by
 unfold isAt
 rw [List.getElem?_mapIdx]
 cases ss[x]? <;> rfl
theorem done_ready (ts : List TaskP) (ss : List StP) (x : Nat) : isAt ss x = 3 ↔ isAt (ss.mapIdx fun i s => if readyI ts ss i then readyT s else s) x = 3 := by
 rw [isAt_map]
 unfold isAt
 cases hs : ss[x]? with
 | none => rfl
 | some s =>
  show s.i = 3 ↔ (if readyI ts ss x = true then readyT s else s).i = 3
  by_cases h : readyI ts ss x = true
  ·
   rw [if_pos h, ready_i]
   by_cases h0 : s.i = 0
   ·
    rw [if_pos h0]; omega
   ·
    rw [if_neg h0]
  ·
   rw [if_neg h]
theorem done_cancel (ss : List StP) (x : Nat) : isAt ss x = 3 ↔ isAt (ss.map cancelT) x = 3 := by
 unfold isAt
 rw [List.getElem?_map]
 cases hs : ss[x]? with
 | none => rfl
 | some s =>
  show s.i = 3 ↔ (cancelT s).i = 3
  rw [cancel_i]
  split
  ·
   omega
  ·
   rfl
theorem mend_right {ts : List TaskP} {ss : List StP} (ht : ∀ (i : Nat) t, ts[i]? = some t → 1 ≤ t.tries) (h : LooseS ts ss) : RightS ts (mendS ts ss 0).1 (mendS ts ss 0).2 := by
 have htask : ∀ (i : Nat) s, ss[i]? = some s → ∃ t, ts[i]? = some t := fun i s hs => by
  have hi := (List.getElem?_eq_some_iff.1 hs).1
  exact ⟨_, List.getElem?_eq_getElem (by rw [← h.len]; exact hi)⟩
 have hkind : ∀ (i : Nat) s, ss[i]? = some s → 0 ≤ s.i ∧ s.i ≤ 5 := fun i s hs => by
  obtain ⟨t, ht'⟩ := htask i s hs
  exact right_kind (h.right i s t hs ht')
 unfold mendS
 by_cases h4 : hasK ss 4 = true
 ·
  rw [if_pos h4]
  have hno : ∀ k : Int, k = 0 ∨ k = 1 ∨ k = 2 → hasK (ss.map cancelT) k = false := fun k hk => by
   rw [Bool.eq_false_iff]
   intro hh
   obtain ⟨i, s, hs, he⟩ := (hasK_iff _ _).1 hh
   rw [List.getElem?_map] at hs
   obtain ⟨u, hu, rfl⟩ := Option.map_eq_some_iff.1 hs
   rw [cancel_i] at he
   split at he <;> omega
  have ho : openS (ss.map cancelT) = false := by unfold openS; rw [hno 0 (by simp), hno 1 (by simp), hno 2 (by simp)]; rfl
  have h4' : hasK (ss.map cancelT) 4 = true := by
   obtain ⟨i, s, hs, he⟩ := (hasK_iff _ _).1 h4
   refine (hasK_iff _ _).2 ⟨i, cancelT s, by rw [List.getElem?_map, hs]; rfl, ?_⟩
   rw [cancel_i, if_neg (by omega), he]
  refine ⟨by rw [List.length_map]; exact h.len, ?_, fun i s t hs ht' => ?_⟩
  ·
   unfold fitsS
   rw [if_neg (fun hh => by rw [h4'] at hh; cases hh.2.1), if_pos h4', ho]
   rfl
  ·
   rw [List.getElem?_map] at hs
   obtain ⟨u, hu, rfl⟩ := Option.map_eq_some_iff.1 hs
   have hr := h.right i u t hu ht'
   refine ⟨(right_cancel hr).1, fun k v hk hv h0 => ?_, fun h0 => ?_, fun h0 h5 => ?_⟩
   ·
    rw [cancel_k hr] at h0; omega
   ·
    rw [cancel_i] at h0
    split at h0 <;> omega
   ·
    rw [← ready_same (done_cancel ss)]
    rw [cancel_i] at h5 h0
    split at h5
    ·
     exact absurd rfl h5
    ·
     rename_i hn
     exact h.past i u hu (fun e => hn (.inl e))
 ·
  rw [if_neg h4]
  have h4f : hasK ss 4 = false := by simpa using h4
  obtain ⟨ss', hss⟩ : ∃ x, x = ss.mapIdx fun i s => if readyI ts ss i then readyT s else s := ⟨_, rfl⟩
  rw [← hss]
  have hat : ∀ (i : Nat) s', ss'[i]? = some s' → ∃ s, ss[i]? = some s ∧ s' = (if readyI ts ss i then readyT s else s) := fun i s' hs => by
   rw [hss, List.getElem?_mapIdx] at hs
   obtain ⟨u, hu, rfl⟩ := Option.map_eq_some_iff.1 hs
   exact ⟨u, hu, rfl⟩
  have hi' : ∀ (i : Nat) s', ss'[i]? = some s' → ∃ s, ss[i]? = some s ∧ s'.k = s.k ∧ (s'.i = s.i ∨ s.i = 0 ∧ s'.i = 1 ∧ readyI ts ss i = true) ∧ (readyI ts ss i = true → s'.i ≠ 0) := fun i s' hs => by
   obtain ⟨s, hs1, rfl⟩ := hat i s' hs
   refine ⟨s, hs1, ?_⟩
   by_cases hr : readyI ts ss i = true
   ·
    rw [if_pos hr, ready_i]
    refine ⟨?_, ?_, fun _ => ?_⟩
    ·
     unfold readyT; split <;> rfl
    ·
     by_cases h0 : s.i = 0
     ·
      rw [if_pos h0]; exact .inr ⟨h0, rfl, hr⟩
     ·
      rw [if_neg h0]; exact .inl rfl
    ·
     split
     ·
      omega
     ·
      assumption
   ·
    rw [if_neg hr]
    exact ⟨rfl, .inl rfl, fun h => absurd h hr⟩
  have hdone : ∀ x, isAt ss x = 3 ↔ isAt ss' x = 3 := by rw [hss]; exact done_ready ts ss
  have h45 : ∀ k : Int, k = 4 ∨ k = 5 → hasK ss' k = false := fun k hk => by
   rw [Bool.eq_false_iff]
   intro hh
   obtain ⟨i, s', hs, he⟩ := (hasK_iff _ _).1 hh
   obtain ⟨s, hs1, -, hs2, -⟩ := hi' i s' hs
   have a := hasK_not h4f hs1
   have b := hasK_not h.here hs1
   omega
  refine ⟨by rw [hss, List.length_mapIdx]; exact h.len, ?_, fun i s' t hs ht' => ?_⟩
  ·
   have hk' : ∀ (i : Nat) s, ss'[i]? = some s → 0 ≤ s.i ∧ s.i ≤ 5 := fun i s' hs => by
    obtain ⟨s, hs1, -, hs2, -⟩ := hi' i s' hs
    have := hkind i s hs1
    omega
   unfold fitsS
   by_cases ho : openS ss' = false
   ·
    have hall : ss'.all (fun s => decide (s.i = 3)) = true := by
     rw [List.all_eq_true]
     intro s hs
     obtain ⟨i, hi, rfl⟩ := List.getElem_of_mem hs
     rw [decide_eq_true_iff]
     exact all_doneS (ts := ts) hk' ho (h45 4 (.inl rfl)) (h45 5 (.inr rfl)) (List.getElem?_eq_getElem hi)
    show (if openS ss' = false ∧ hasK ss' 4 = false ∧ hasK ss' 5 = false then decide ((if ss'.all (fun s => decide (s.i = 3)) = true then (1 : Int) else 0) = 1) else _) = true
    rw [if_pos ⟨ho, h45 4 (.inl rfl), h45 5 (.inr rfl)⟩, if_pos hall]
    rfl
   ·
    have hall : ¬ ss'.all (fun s => decide (s.i = 3)) = true := fun hh => by
     apply ho
     rw [List.all_eq_true] at hh
     have hno : ∀ k : Int, k ≠ 3 → hasK ss' k = false := fun k hk => by
      rw [Bool.eq_false_iff]
      intro hx
      obtain ⟨i, s, hs, he⟩ := (hasK_iff _ _).1 hx
      have := hh s (List.mem_of_getElem? hs)
      rw [decide_eq_true_iff] at this
      omega
     unfold openS
     rw [hno 0 (by omega), hno 1 (by omega), hno 2 (by omega)]
     rfl
    have h4n : ¬ hasK ss' 4 = true := by rw [h45 4 (.inl rfl)]; decide
    show (if openS ss' = false ∧ hasK ss' 4 = false ∧ hasK ss' 5 = false then _ else if hasK ss' 4 = true then _ else if openS ss' = false then _ else decide ((if ss'.all (fun s => decide (s.i = 3)) = true then (1 : Int) else 0) = 0) && !hasK ss' 5) = true
    rw [if_neg (fun hh => ho hh.1), if_neg h4n, if_neg ho, if_neg hall, h45 5 (.inr rfl)]
    rfl
  ·
   obtain ⟨s, hs1, hk1, hs2, hs3⟩ := hi' i s' hs
   have hr := h.right i s t hs1 ht'
   refine ⟨?_, fun k v hk hv h0 => ?_, fun h0 => ?_, fun h0 h5 => ?_⟩
   ·
    obtain ⟨s0, h1, rfl⟩ := hat i s' hs
    obtain rfl : s = s0 := Option.some.inj (hs1.symm.trans h1)
    by_cases hrd : readyI ts ss i = true
    ·
     rw [if_pos hrd]; exact (right_ready' (ht i t ht') hr).1
    ·
     rw [if_neg hrd]; exact hr
   ·
    obtain ⟨u, hu1, hk2, -, -⟩ := hi' k v hv
    rw [hk1] at h0 ⊢
    rw [hk2]
    exact h.token i k s u (by omega) hs1 hu1 h0
   ·
    rw [← ready_same hdone]
    rw [Bool.eq_false_iff]
    exact fun hh => hs3 hh h0
   ·
    rw [← ready_same hdone]
    rcases hs2 with e | ⟨_, _, hh⟩
    ·
     exact h.past i s hs1 (by omega)
    ·
     exact hh
theorem isAt_set (ss : List StP) (i x : Nat) (s : StP) : isAt (ss.set i s) x = if i = x ∧ x < ss.length then s.i else isAt ss x := by
 unfold isAt
 rw [List.getElem?_set]
 by_cases h : i = x
 ·
  subst h
  rw [if_pos rfl]
  by_cases hl : i < ss.length
  ·
   rw [if_pos hl, if_pos ⟨rfl, hl⟩]; rfl
  ·
   rw [if_neg hl, if_neg (fun hh => hl hh.2), List.getElem?_eq_none (by omega)]
 ·
  rw [if_neg h, if_neg (fun hh => h hh.1)]
theorem goes_parts {ss : List StP} (h : fitsS ss 0 = true) : openS ss = true ∧ hasK ss 4 = false ∧ hasK ss 5 = false := by
 unfold fitsS at h
 by_cases h1 : openS ss = false ∧ hasK ss 4 = false ∧ hasK ss 5 = false
 ·
  rw [if_pos h1] at h; cases h
 ·
  rw [if_neg h1] at h
  by_cases h2 : hasK ss 4 = true
  ·
   rw [if_pos h2] at h; cases h
  ·
   rw [if_neg h2] at h
   by_cases h3 : openS ss = false
   ·
    rw [if_pos h3] at h; cases h
   ·
    rw [if_neg h3] at h
    exact ⟨by simpa using h3, by simpa using h2, by simpa using h⟩
theorem RightS.task {ts : List TaskP} {ss : List StP} {is : Int} (h : RightS ts ss is) {i : Nat} {s : StP} (hs : ss[i]? = some s) : ∃ t, ts[i]? = some t := by
 have hi := (List.getElem?_eq_some_iff.1 hs).1
 exact ⟨_, List.getElem?_eq_getElem (by rw [← h.len]; exact hi)⟩
theorem RightS.token {ts : List TaskP} {ss : List StP} {is : Int} (h : RightS ts ss is) {i k : Nat} {s u : StP} (hik : k ≠ i) (hs : ss[i]? = some s) (hu : ss[k]? = some u) (h0 : 0 < s.k) : u.k ≠ s.k := by
 obtain ⟨t, ht⟩ := h.task hs
 obtain ⟨t', ht'⟩ := h.task hu
 rcases Nat.lt_or_gt_of_ne hik with hlt | hgt
 ·
  exact (h.each i s t hs ht).token k u hlt hu h0
 ·
  intro e
  exact (h.each k u t' hu ht').token i s hgt hs (by omega) e.symm
theorem loose_set {ts : List TaskP} {ss : List StP} {i : Nat} {s x : StP} {t : TaskP} (h : RightS ts ss 0) (hs : ss[i]? = some s) (ht : ts[i]? = some t) (hx : rightT t.tries x = true) (h0 : s.i ≠ 0) (h3 : s.i = 3 → x.i = 3) (h5 : x.i ≠ 5) (hk : 0 < x.k → ∀ k u, k ≠ i → ss[k]? = some u → u.k ≠ x.k) : LooseS ts (ss.set i x) := by
 obtain ⟨ho, g4, g5⟩ := goes_parts h.fits
 have hl := (List.getElem?_eq_some_iff.1 hs).1
 have hmono : ∀ y, isAt ss y = 3 → isAt (ss.set i x) y = 3 := fun y hy => by
  rw [isAt_set]
  split
  ·
   rename_i hc
   obtain ⟨rfl, -⟩ := hc
   rw [isAt_some hs] at hy
   exact h3 hy
  ·
   exact hy
 have hat : ∀ {j : Nat} {v : StP}, (ss.set i x)[j]? = some v → (j = i ∧ v = x) ∨ (j ≠ i ∧ ss[j]? = some v) := fun {j v} hv => by
  rw [List.getElem?_set] at hv
  by_cases e : i = j
  ·
   subst e
   rw [if_pos rfl, if_pos hl] at hv
   exact .inl ⟨rfl, (Option.some.inj hv).symm⟩
  ·
   rw [if_neg e] at hv
   exact .inr ⟨fun hh => e hh.symm, hv⟩
 refine ⟨by rw [List.length_set]; exact h.len, fun j v u hv hu => ?_, fun j k v u hjk hv hu hp => ?_, fun j v hv hv0 => ?_, ?_⟩
 ·
  rcases hat hv with ⟨rfl, rfl⟩ | ⟨_, hv'⟩
  ·
   rw [ht] at hu; obtain rfl := Option.some.inj hu; exact hx
  ·
   exact (h.each j v u hv' hu).right
 ·
  rcases hat hv with ⟨rfl, rfl⟩ | ⟨hj, hv'⟩
  ·
   rcases hat hu with ⟨rfl, rfl⟩ | ⟨hk', hu'⟩
   ·
    exact absurd rfl hjk
   ·
    exact hk hp k u hk' hu'
  ·
   rcases hat hu with ⟨rfl, rfl⟩ | ⟨hk', hu'⟩
   ·
    intro e
    exact hk (by omega) j v hj hv' e.symm
   ·
    exact h.token hjk hv' hu' hp
 ·
  rcases hat hv with ⟨rfl, rfl⟩ | ⟨hj, hv'⟩
  ·
   exact ready_more hmono ((h.each j s t hs ht).past h0 (hasK_not g5 hs))
  ·
   obtain ⟨t', ht'⟩ := h.task hv'
   exact ready_more hmono ((h.each j v t' hv' ht').past hv0 (hasK_not g5 hv'))
 ·
  rw [Bool.eq_false_iff]
  intro hh
  obtain ⟨j, v, hv, he⟩ := (hasK_iff _ _).1 hh
  rcases hat hv with ⟨rfl, rfl⟩ | ⟨_, hv'⟩
  ·
   exact h5 he
  ·
   exact hasK_not g5 hv' he
def stepO (ss : List StP) (u : Int) (o : Option Nat) (i : Nat) : Option Nat :=
 match ss[i]? with
  | some s => if s.i = 2 ∧ s.d ≤ u then (match o with
   | none => some i
   | some j => match ss[j]? with
    | some v => if s.d < v.d then some i else some j
    | none => some j) else o
  | none => o
def overN (ss : List StP) (u : Int) : Option Nat := (List.range ss.length).foldl (stepO ss u) none
def OverAt (ss : List StP) (u : Int) (i : Nat) : Prop :=
 ∃ s, ss[i]? = some s ∧ s.i = 2 ∧ s.d ≤ u ∧ ∀ j v, ss[j]? = some v → v.i = 2 → v.d ≤ u → s.d ≤ v.d ∧ (v.d = s.d → i ≤ j)
end Go.Proofs.Ytdpljpjbomhccaa.Plain
namespace Go.Proofs.Ytdpljpjbomhccaa
open Go.RowKit Plain Go.ChangeShapes Go.WideShapes
set_option linter.unusedVariables false
structure TaskV where
 a : Option Addr
 c : Nat
 ns : List Int
 tr : Int
 wt : Int
 le : Int
instance : Inhabited TaskV := ⟨⟨none, 0, [], 0, 0, 0⟩⟩
def TaskV.p (t : TaskV) : TaskP := ⟨t.ns, t.tr, t.wt, t.le⟩
def plainT (ts : List TaskV) : List TaskP := ts.map TaskV.p
theorem plainT_length (ts : List TaskV) : (plainT ts).length = ts.length := by simp [plainT]
theorem plainT_get {ts : List TaskV} {j : Nat} {t : TaskV} (h : ts[j]? = some t) : (plainT ts)[j]? = some t.p := by unfold plainT; rw [List.getElem?_map, h]; rfl
theorem needsAt_get {ts : List TaskV} {j : Nat} {t : TaskV} (h : ts[j]? = some t) : needsAt (plainT ts) j = t.ns := by unfold needsAt; rw [plainT_get h]; rfl
def fourT (t : TaskV) : List Value := [.slice t.a t.ns.length t.c, .int .i64 t.tr, .int .i64 t.wt, .int .i64 t.le]
def cellsT (ts : List TaskV) : List Value := ts.flatMap fourT
theorem cellsT_cons (t : TaskV) (ts : List TaskV) : cellsT (t :: ts) = .slice t.a t.ns.length t.c :: .int .i64 t.tr :: .int .i64 t.wt :: .int .i64 t.le :: cellsT ts := rfl
theorem cellsT_length (ts : List TaskV) : (cellsT ts).length = ts.length * 4 := by
 induction ts with
 | nil => rfl
 | cons t ts ih => rw [cellsT_cons]; simp [ih]; omega
theorem cellsT_at {ts : List TaskV} {i : Nat} {t : TaskV} (h : ts[i]? = some t) : (cellsT ts)[i * 4]? = some (.slice t.a t.ns.length t.c) ∧ (cellsT ts)[i * 4 + 1]? = some (.int .i64 t.tr) ∧ (cellsT ts)[i * 4 + 2]? = some (.int .i64 t.wt) ∧ (cellsT ts)[i * 4 + 3]? = some (.int .i64 t.le) := by
 induction ts generalizing i with
 | nil => simp at h
 | cons q ps ih =>
  rw [cellsT_cons]
  cases i with
  | zero => simp at h; subst h; exact ⟨rfl, rfl, rfl, rfl⟩
  | succ i =>
   simp at h
   have := ih h
   rw [Nat.succ_mul]
   simpa using this
theorem cellsT_any (ts : List TaskV) : ∀ u ∈ cellsT ts, ∃ t ∈ ts, u ∈ fourT t := fun u hu => List.mem_flatMap.1 hu
theorem cellsT_set {ts : List TaskV} {j : Nat} {t : TaskV} (h : ts[j]? = some t) (m : List Int) (hm : m.length ≤ t.ns.length) : cellsT (ts.set j { t with ns := m }) = (cellsT ts).set (j * 4) (.slice t.a m.length t.c) := by
 induction ts generalizing j with
 | nil => simp at h
 | cons q ps ih =>
  cases j with
  | zero => simp at h; subst h; rfl
  | succ j =>
   rw [List.getElem?_cons_succ] at h
   rw [List.set_cons_succ, cellsT_cons, cellsT_cons, ih h, show (j + 1) * 4 = j * 4 + 1 + 1 + 1 + 1 by omega]
   rfl
def NeedsIn (w : World) (ts : List TaskV) : Prop := ∀ t ∈ ts, IsI w t.a t.c t.ns
theorem NeedsIn.below {w w' : World} {ts : List TaskV} (h : NeedsIn w ts) (hb : Below w.heap.size w w') : NeedsIn w' ts := fun t ht => (h t ht).below hb
def IsT (w : World) (a : Option Addr) (c : Nat) (ts : List TaskV) : Prop :=
 ts.length ≤ c ∧ c ≤ maxLen ∧ NeedsIn w ts ∧ ∀ (j : Nat) t, ts[j]? = some t → ∃ b o, a = some ⟨b, o, none⟩ ∧ b < w.heap.size ∧ w.cell? ⟨b, o + j * 4, none⟩ = some (.slice t.a t.ns.length t.c) ∧ w.cell? ⟨b, o + j * 4 + 1, none⟩ = some (.int .i64 t.tr) ∧ w.cell? ⟨b, o + j * 4 + 2, none⟩ = some (.int .i64 t.wt) ∧ w.cell? ⟨b, o + j * 4 + 3, none⟩ = some (.int .i64 t.le)
theorem isT_nil (w : World) (a : Option Addr) (c : Nat) (hc : c ≤ maxLen) : IsT w a c [] := ⟨Nat.zero_le _, hc, fun t h => by simp at h, fun j p h => by simp at h⟩
theorem IsT.below {w w' : World} {a : Option Addr} {c : Nat} {ts : List TaskV} (h : IsT w a c ts) (hb : Below w.heap.size w w') : IsT w' a c ts := by
 refine ⟨h.1, h.2.1, h.2.2.1.below hb, fun j t ht => ?_⟩
 obtain ⟨b, o, ha, hl, c0, c1, c2, c3⟩ := h.2.2.2 j t ht
 exact ⟨b, o, ha, Nat.lt_of_lt_of_le hl hb.size, cell_below hb c0, cell_below hb c1, cell_below hb c2, cell_below hb c3⟩
theorem IsT.some {w : World} {a : Option Addr} {c : Nat} {ts : List TaskV} (h : IsT w a c ts) (h0 : 0 < ts.length) : ∃ b o, a = .some ⟨b, o, none⟩ ∧ b < w.heap.size := by
 obtain ⟨b, o, ha, hl, _⟩ := h.2.2.2 0 ts[0] (List.getElem?_eq_getElem h0)
 exact ⟨b, o, ha, hl⟩
theorem IsT.at {w : World} {b o c : Nat} {ts : List TaskV} (h : IsT w (.some ⟨b, o, none⟩) c ts) {j : Nat} {t : TaskV} (ht : ts[j]? = .some t) :
  w.cell? ⟨b, o + j * 4, none⟩ = .some (.slice t.a t.ns.length t.c) ∧ w.cell? ⟨b, o + j * 4 + 1, none⟩ = .some (.int .i64 t.tr) ∧ w.cell? ⟨b, o + j * 4 + 2, none⟩ = .some (.int .i64 t.wt) ∧ w.cell? ⟨b, o + j * 4 + 3, none⟩ = .some (.int .i64 t.le) ∧ IsI w t.a t.c t.ns := by
 obtain ⟨b', o', he, _, hc⟩ := h.2.2.2 j t ht
 cases he
 exact ⟨hc.1, hc.2.1, hc.2.2.1, hc.2.2.2, h.2.2.1 t (List.mem_of_getElem? ht)⟩
theorem IsT.take {w : World} {a : Option Addr} {c : Nat} {ts : List TaskV} (h : IsT w a c ts) (n : Nat) : IsT w a c (ts.take n) := by
 refine ⟨by rw [List.length_take]; have := h.1; omega, h.2.1, fun t ht => h.2.2.1 t (List.mem_of_mem_take ht), fun j x hx => h.2.2.2 j x ?_⟩
 rw [List.getElem?_take] at hx
 split at hx
 ·
  exact hx
 ·
  cases hx
theorem isT_src {w : World} {ad : Addr} {c : Nat} {ts : List TaskV} (h : IsT w (some ad) c ts) : ∀ j u, (cellsT ts)[j]? = some u → w.cell? (ad.add j) = some u := by
 intro j u hj
 have hl := (List.getElem?_eq_some_iff.1 hj).1
 rw [cellsT_length] at hl
 have hi : j / 4 < ts.length := by omega
 obtain ⟨b, o, ha, _, c0, c1, c2, c3⟩ := h.2.2.2 (j / 4) ts[j / 4] (List.getElem?_eq_getElem hi)
 obtain ⟨d0, d1, d2, d3⟩ := cellsT_at (List.getElem?_eq_getElem hi)
 cases ha
 rw [at_add]
 rcases (show j % 4 = 0 ∨ j % 4 = 1 ∨ j % 4 = 2 ∨ j % 4 = 3 by omega) with hr | hr | hr | hr
 ·
  rw [show j / 4 * 4 = j by omega] at c0 d0
  rw [d0] at hj; rw [← Option.some.inj hj]; exact c0
 ·
  rw [Nat.add_assoc, show j / 4 * 4 + 1 = j by omega] at c1
  rw [show j / 4 * 4 + 1 = j by omega] at d1
  rw [d1] at hj; rw [← Option.some.inj hj]; exact c1
 ·
  rw [Nat.add_assoc, show j / 4 * 4 + 2 = j by omega] at c2
  rw [show j / 4 * 4 + 2 = j by omega] at d2
  rw [d2] at hj; rw [← Option.some.inj hj]; exact c2
 ·
  rw [Nat.add_assoc, show j / 4 * 4 + 3 = j by omega] at c3
  rw [show j / 4 * 4 + 3 = j by omega] at d3
  rw [d3] at hj; rw [← Option.some.inj hj]; exact c3
def RowK (w : World) (g cap : Nat) (ts : List TaskV) : Prop :=
 ∃ cur : Array Value, w.heap[g]? = some (.cells cur 50 (0, 0)) ∧ cur.toList.take (ts.length * 4) = cellsT ts ∧ ts.length ≤ cap ∧ cap ≤ maxLen ∧ cur.size = cap * 4
theorem RowK.lt {w : World} {g cap : Nat} {ts : List TaskV} (h : RowK w g cap ts) : g < w.heap.size := by
 obtain ⟨cur, hg, _⟩ := h
 exact (Array.getElem?_eq_some_iff.1 hg).1
theorem RowK.below {w w' : World} {g cap : Nat} {ts : List TaskV} (h : RowK w g cap ts) (hb : Below w.heap.size w w') : RowK w' g cap ts := by
 have hl := h.lt
 obtain ⟨cur, hg, hr⟩ := h
 exact ⟨cur, by rw [hb.block g hl]; exact hg, hr⟩
theorem RowK.other {w : World} {g cap h i : Nat} {ts : List TaskV} {v : Value} (hr : RowK w g cap ts) (hn : g ≠ h) : RowK (w.setCell ⟨h, i, none⟩ v) g cap ts := by
 obtain ⟨cur, hg, hr⟩ := hr
 exact ⟨cur, by rw [Below.heap_setCell _ _ _ _ hn]; exact hg, hr⟩
theorem RowK.at {w : World} {g cap : Nat} {ts : List TaskV} (h : RowK w g cap ts) {j : Nat} {u : Value} (hu : (cellsT ts)[j]? = some u) : w.cell? ⟨g, j, none⟩ = some u ∧ w.frozen? ⟨g, j, none⟩ = false := by
 obtain ⟨cur, hg, ht, hl, _, hs⟩ := h
 have hj := (List.getElem?_eq_some_iff.1 hu).1
 rw [cellsT_length] at hj
 have hc : cur[j]? = some u := by
  rw [← Array.getElem?_toList]
  have : (cur.toList.take (ts.length * 4))[j]? = some u := by rw [ht]; exact hu
  rwa [List.getElem?_take_of_lt hj] at this
 exact ⟨by rw [Joins.cell_of_block hg]; exact hc, Joins.unfrozen_of_block hg j⟩
theorem RowK.cut {w : World} {g cap : Nat} {ts : List TaskV} (h : RowK w g cap ts) {j : Nat} {t : TaskV} (ht : ts[j]? = some t) (m : List Int) (hm : m.length ≤ t.ns.length) : RowK (w.setCell ⟨g, j * 4, none⟩ (.slice t.a m.length t.c)) g cap (ts.set j { t with ns := m }) := by
 obtain ⟨cur, hg, hk, hl, hx, hs⟩ := h
 refine ⟨_, Joins.block_setCell hg _, ?_, by rw [List.length_set]; exact hl, hx, by rw [Array.size_setIfInBounds]; exact hs⟩
 rw [List.length_set, Array.toList_setIfInBounds, List.take_set, hk, cellsT_set ht m hm]
theorem RowK.isT {w : World} {g cap : Nat} {ts : List TaskV} (h : RowK w g cap ts) (hn : NeedsIn w ts) : IsT w (some ⟨g, 0, none⟩) cap ts := by
 have hl := h.lt
 refine ⟨?_, ?_, hn, fun j t ht => ⟨g, 0, rfl, hl, ?_, ?_, ?_, ?_⟩⟩
 ·
  obtain ⟨cur, _, _, h1, _⟩ := h; exact h1
 ·
  obtain ⟨cur, _, _, _, h1, _⟩ := h; exact h1
 ·
  rw [Nat.zero_add]; exact (h.at (cellsT_at ht).1).1
 ·
  rw [Nat.zero_add]; exact (h.at (cellsT_at ht).2.1).1
 ·
  rw [Nat.zero_add]; exact (h.at (cellsT_at ht).2.2.1).1
 ·
  rw [Nat.zero_add]; exact (h.at (cellsT_at ht).2.2.2).1
theorem Try.info50 : (Try.prog.info? 50).map (fun i => (i.zero, i.size, i.bytes)) = some (some (.agg #[.slice none 0 0, .int .i64 0, .int .i64 0, .int .i64 0]), 4, 48) := by kernel_rfl
theorem runT_none {w : World} (base : Nat) (t ty e : TypeId) (i : TypeInfo) (size m c : Nat) (hm : m = 0) (ht : Try.prog.underlying t = some (.slice e)) (hi : Try.prog.info? e = some i)
  (v : Value) (n : Nat) (xs : List Value) (hown : w.ownsRow base e size v n xs) :
  (Builtin.append_ #[t, t] ty #[v, .slice none m c]).run Try.prog w = .ok v w := by
 subst hm
 rcases hown.2 with ⟨rfl, rfl⟩ | ⟨g, cap, cur, rfl, _, _, hnc, _⟩
 ·
  simp [Builtin.append_, run_underlying ht, sizeOf, typeInfo, hi, Builtin.lenOf, Builtin.firstCells]
 ·
  simp [Builtin.append_, run_underlying ht, sizeOf, typeInfo, hi, Builtin.lenOf, Builtin.firstCells, hnc, storeCells]
theorem copyK (W : World) (a : Option Addr) (c n : Nat) (ts : List TaskV) (hn : n = ts.length) (hT : IsT W a c ts) (hz : n ≤ 1000000) (ty : TypeId) :
  ∃ g cap w', (Builtin.append_ #[22, 22] ty #[.slice (some ⟨W.heap.size, 0, none⟩) 0 0, .slice a n c]).run Try.prog (W.alloc (.cells #[] 50)) = .ok (.slice (some ⟨g, 0, none⟩) n cap) w' ∧ W.heap.size ≤ g ∧ RowK w' g cap ts ∧ Below W.heap.size W w' := by
 subst hn
 obtain ⟨i0, hi, hz0, hz1, hz2⟩ := info_parts Try.info50
 have hown := World.ownsRow_made (base := W.heap.size) (e := 50) (size := 4) W #[] 0 (Nat.le_refl _) (Nat.zero_le _) rfl
 have hB := (Below.refl W.heap.size W).alloc (Nat.le_refl _) (.cells #[] 50)
 cases a with
 | none =>
  have h0 : ts = [] := by
   rcases Nat.eq_zero_or_pos ts.length with h | h
   ·
    exact List.length_eq_zero_iff.1 h
   ·
    obtain ⟨b, o, hh, _⟩ := hT.some h
    cases hh
  subst h0
  refine ⟨W.heap.size, 0, _, runT_none W.heap.size _ ty _ i0 4 0 c rfl Try.underlying22 hi _ _ _ hown, Nat.le_refl _, ⟨#[], ?_, rfl, Nat.le_refl _, Nat.zero_le _, rfl⟩, hB⟩
  exact heap_new W _
 | some ad =>
  obtain ⟨v', w', hr, h2, h3, h4⟩ := run_append_own (P := Try.prog) (W.alloc (.cells #[] 50)) W.heap.size 22 ty 50 i0 _ 4 48 Try.underlying22 hi hz0 hz1 hz2 rfl (by decide) _ 0 _ hown ad ts.length c (cellsT ts) (cellsT_length ts) (isT_src (hT.below hB))
   (fun u hu => by obtain ⟨t, _, h⟩ := cellsT_any ts u hu; simp [fourT] at h; rcases h with rfl | rfl | rfl | rfl <;> rfl) (by have := hT.1; have := hT.2.1; unfold maxLen at *; omega) (by omega) (by simp)
  rcases h2.2 with ⟨h, _⟩ | ⟨g, cap, cur, h, hg, hcur, hnc, hcm, hsz, htk⟩
  ·
   exact absurd (h4.1 h).1 (by simp)
  ·
   subst h
   refine ⟨g, cap, w', by rw [hr, Nat.zero_add], hg, ⟨cur, hcur, by simpa using htk, by omega, hcm, by omega⟩, hB.grown h3 (by simp) (by intro k hk; simp [Value.ownBlock] at hk; omega)⟩
theorem list_four {α : Type} (l : List α) (h : l.length = 4) : ∃ a b c d, l = [a, b, c, d] := by
 match l, h with
 | [a, b, c, d], _ => exact ⟨a, b, c, d, rfl⟩
set_option maxRecDepth 20000 in
theorem open_T {H : Type} {enc : TypeId × Value → H} {w : World} {fuel : Nat} {v : Value} {x : DataW H × List MemPlace}
  (h : DataW.trod enc Try.prog w 0 (fun _ => true) true fuel 22 [v] = some x) : ∃ a c ts, v = .slice a ts.length c ∧ IsT w a c ts := by
 have ce : Try.prog.cellsOf 50 = 4 := by kernel_rfl
 rcases Deep.open_slice Try.underlying22 h with ⟨hcs, _⟩ | ⟨a, l, c, m, n, D, Pl, hcs, _, hl, hm, hmm, _, hcell⟩
 ·
  simp at hcs
  subst hcs
  exact ⟨none, 0, [], rfl, isT_nil _ _ _ (Nat.zero_le _)⟩
 ·
  simp at hcs
  subst hcs
  simp at hmm
  have each : ∀ i, i < m → ∃ t : TaskV, w.cell? (a.add (i * 4)) = some (.slice t.a t.ns.length t.c) ∧ w.cell? (a.add (i * 4 + 1)) = some (.int .i64 t.tr) ∧ w.cell? (a.add (i * 4 + 2)) = some (.int .i64 t.wt) ∧ w.cell? (a.add (i * 4 + 3)) = some (.int .i64 t.le) ∧ IsI w t.a t.c t.ns := by
   intro i hi
   obtain ⟨cs', h1, h2⟩ := hcell i hi
   rw [ce] at h1
   obtain ⟨_, hlen, hc⟩ := World.cells?_some h1
   obtain ⟨y0, y1, y2, y3, k, _, _, g0, g1, g2, g3⟩ := Joins.trod_struct4 Try.underlying50 h2
   obtain ⟨v0, v1, v2, v3, rfl⟩ := list_four cs' hlen
   have ci : Try.prog.cellsOf 48 = 1 := by kernel_rfl
   have cb : Try.prog.cellsOf 3 = 1 := by kernel_rfl
   simp only [ci, cb, List.drop_zero, List.drop_succ_cons, List.take_succ_cons, List.take_zero] at g0 g1 g2 g3
   obtain ⟨ai, ca, ms, rfl, hI⟩ := open_I g0
   obtain ⟨x1, e1, _, s1⟩ := DataW.trod_int (k := .i64) Try.underlying3 g1
   obtain ⟨x2, e2, _, s2⟩ := DataW.trod_int (k := .i64) Try.underlying3 g2
   obtain ⟨x3, e3, _, s3⟩ := DataW.trod_int (k := .i64) Try.underlying3 g3
   simp at e1 e2 e3
   subst e1 e2 e3
   have c0 := hc 0 (by omega)
   have c1 := hc 1 (by omega)
   have c2 := hc 2 (by omega)
   have c3 := hc 3 (by omega)
   rw [Deep.add_add] at c0 c1 c2 c3
   exact ⟨⟨ai, ca, ms, x1, x2, x3⟩, by simpa using c0, by simpa using c1, by simpa using c2, by simpa using c3, hI⟩
  obtain ⟨q, hq⟩ := Deep.choose_lt each
  refine ⟨some a, c, (List.range l).map q, by simp, by simpa using hl, hm, fun t ht => ?_, fun j p hp => ?_⟩
  ·
   obtain ⟨i, hi, rfl⟩ := List.mem_map.1 ht
   exact (hq i (by have := List.mem_range.1 hi; omega)).2.2.2.2
  ·
   have hj : j < l := by simpa using (List.getElem?_eq_some_iff.1 hp).1
   rw [List.getElem?_map, List.getElem?_range hj] at hp
   obtain rfl : q j = p := Option.some.inj hp
   obtain ⟨h0, h1, h2, h3, _⟩ := hq j (by omega)
   obtain ⟨b, o, rfl, hb⟩ := spot_none (hq 0 (by omega)).1
   rw [at_add] at h0 h1 h2 h3
   exact ⟨b, o, rfl, hb, h0, by rw [Nat.add_assoc]; exact h1, by rw [Nat.add_assoc]; exact h2, by rw [Nat.add_assoc]; exact h3⟩
end Go.Proofs.Ytdpljpjbomhccaa
namespace Go.Proofs.Ytdpljpjbomhccaa
open Go.RowKit Plain
set_option linter.unusedVariables false
structure RowZ (w : World) (b o c : Nat) (ss : List StP) : Prop where
 isZ : IsZ w (some ⟨b, o, none⟩) c ss
 lt : b < w.heap.size
 free : ∀ k, k < ss.length * 5 → w.frozen? ⟨b, o + k, none⟩ = false
theorem RowZ.turns {P : Nat → Prop} {w w' : World} {b o c : Nat} {ss : List StP} (r : RowZ w b o c ss) (t : Turns P w w') (hp : ¬ P b) : RowZ w' b o c ss :=
 ⟨r.isZ.turns t (fun x hx => by cases hx; exact hp), Nat.lt_of_lt_of_le r.lt t.size, fun k hk => t.frozen (p := ⟨b, o + k, none⟩) r.lt hp (r.free k hk)⟩
theorem RowZ.below {w w' : World} {b o c : Nat} {ss : List StP} (r : RowZ w b o c ss) (hb : Below w.heap.size w w') : RowZ w' b o c ss := r.turns (P := fun _ => False) (Turns.of_below hb) id
theorem RowZ.at {w : World} {b o c : Nat} {ss : List StP} (r : RowZ w b o c ss) {j : Nat} {x : StP} (hx : ss[j]? = some x) :
  w.cell? ⟨b, o + j * 5, none⟩ = some (.int .i64 x.i) ∧ w.cell? ⟨b, o + j * 5 + 1, none⟩ = some (.int .i64 x.t) ∧ w.cell? ⟨b, o + j * 5 + 2, none⟩ = some (.int .i64 x.d) ∧ w.cell? ⟨b, o + j * 5 + 3, none⟩ = some (.int .i64 x.k) ∧ w.cell? ⟨b, o + j * 5 + 4, none⟩ = some (.string x.r) := r.isZ.at hx
theorem RowZ.frees {w : World} {b o c : Nat} {ss : List StP} (r : RowZ w b o c ss) {j : Nat} (hj : j < ss.length) :
  w.frozen? ⟨b, o + j * 5, none⟩ = false ∧ w.frozen? ⟨b, o + j * 5 + 1, none⟩ = false ∧ w.frozen? ⟨b, o + j * 5 + 2, none⟩ = false ∧ w.frozen? ⟨b, o + j * 5 + 3, none⟩ = false ∧ w.frozen? ⟨b, o + j * 5 + 4, none⟩ = false := by
 refine ⟨r.free (j * 5) (by omega), ?_, ?_, ?_, ?_⟩
 ·
  have := r.free (j * 5 + 1) (by omega); rw [← Nat.add_assoc] at this; exact this
 ·
  have := r.free (j * 5 + 2) (by omega); rw [← Nat.add_assoc] at this; exact this
 ·
  have := r.free (j * 5 + 3) (by omega); rw [← Nat.add_assoc] at this; exact this
 ·
  have := r.free (j * 5 + 4) (by omega); rw [← Nat.add_assoc] at this; exact this
@[reducible] def put5 (w : World) (b p : Nat) (x : StP) : World :=
 ((((w.setCell ⟨b, p, none⟩ (.int .i64 x.i)).setCell ⟨b, p + 1, none⟩ (.int .i64 x.t)).setCell ⟨b, p + 2, none⟩ (.int .i64 x.d)).setCell ⟨b, p + 3, none⟩ (.int .i64 x.k)).setCell ⟨b, p + 4, none⟩ (.string x.r)
theorem put5_turns (w : World) (b p : Nat) (x : StP) : Turns (fun k => k = b) w (put5 w b p x) :=
 (((((Turns.refl (fun k => k = b) w).setCell (p := ⟨b, p, none⟩) rfl _).setCell (p := ⟨b, p + 1, none⟩) rfl _).setCell (p := ⟨b, p + 2, none⟩) rfl _).setCell (p := ⟨b, p + 3, none⟩) rfl _).setCell (p := ⟨b, p + 4, none⟩) rfl _
theorem cell_off {w : World} {b i j : Nat} {v u : Value} (h : w.cell? ⟨b, i, none⟩ = some u) (hn : i ≠ j) : (w.setCell ⟨b, j, none⟩ v).cell? ⟨b, i, none⟩ = some u := by
 rw [World.cell?_setCell_other _ _ _ _ (fun hh => hn (by cases hh; rfl))]; exact h
theorem RowZ.put {w : World} {b o c : Nat} {ss : List StP} (r : RowZ w b o c ss) {i : Nat} (hi : i < ss.length) (x : StP) (hx : x.r.size ≤ maxLen) : RowZ (put5 w b (o + i * 5) x) b o c (ss.set i x) := by
 refine ⟨⟨by rw [List.length_set]; exact r.isZ.1, r.isZ.2.1, fun j y hy => ⟨b, o, rfl, ?_, ?_, ?_⟩⟩, ?_, fun k hk => ?_⟩
 ·
  exact Nat.lt_of_lt_of_le r.lt (put5_turns w b _ x).size
 ·
  obtain ⟨s, hs⟩ : ∃ s, ss[i]? = some s := ⟨_, List.getElem?_eq_getElem hi⟩
  obtain ⟨e0, e1, e2, e3, e4⟩ := r.at hs
  by_cases hij : i = j
  ·
   subst hij
   rw [List.getElem?_set, if_pos rfl, if_pos hi] at hy
   obtain rfl := Option.some.inj hy
   unfold put5
   refine ⟨?_, ?_, ?_, ?_, ?_⟩
   ·
    exact cell_off (cell_off (cell_off (cell_off (World.cell?_setCell_same _ _ _ e0) (by omega)) (by omega)) (by omega)) (by omega)
   ·
    exact cell_off (cell_off (cell_off (World.cell?_setCell_same _ _ _ (cell_off e1 (by omega))) (by omega)) (by omega)) (by omega)
   ·
    exact cell_off (cell_off (World.cell?_setCell_same _ _ _ (cell_off (cell_off e2 (by omega)) (by omega))) (by omega)) (by omega)
   ·
    exact cell_off (World.cell?_setCell_same _ _ _ (cell_off (cell_off (cell_off e3 (by omega)) (by omega)) (by omega))) (by omega)
   ·
    exact World.cell?_setCell_same _ _ _ (cell_off (cell_off (cell_off (cell_off e4 (by omega)) (by omega)) (by omega)) (by omega))
  ·
   rw [List.getElem?_set_ne hij] at hy
   obtain ⟨f0, f1, f2, f3, f4⟩ := r.at hy
   have five : ∀ {k : Nat} {v : Value}, w.cell? ⟨b, k, none⟩ = some v → (k < o + i * 5 ∨ o + i * 5 + 4 < k) → (put5 w b (o + i * 5) x).cell? ⟨b, k, none⟩ = some v := fun h hk => by
    unfold put5
    exact cell_off (cell_off (cell_off (cell_off (cell_off h (by omega)) (by omega)) (by omega)) (by omega)) (by omega)
   refine ⟨five f0 ?_, five f1 ?_, five f2 ?_, five f3 ?_, five f4 ?_⟩ <;> omega
 ·
  by_cases hij : i = j
  ·
   subst hij
   rw [List.getElem?_set, if_pos rfl, if_pos hi] at hy
   obtain rfl := Option.some.inj hy
   exact hx
  ·
   rw [List.getElem?_set_ne hij] at hy
   exact r.isZ.text hy
 ·
  exact Nat.lt_of_lt_of_le r.lt (put5_turns w b _ x).size
 ·
  rw [List.length_set] at hk
  unfold put5
  simp only [World.frozen?_setCell]
  exact r.free k hk
theorem IsT.turns {P : Nat → Prop} {w w' : World} {a : Option Addr} {c : Nat} {ts : List TaskV} (h : IsT w a c ts) (t : Turns P w w') (hp : ∀ x, a = Option.some x → ¬ P x.block) (hq : ∀ u ∈ ts, ∀ x, u.a = Option.some x → ¬ P x.block) : IsT w' a c ts := by
 refine ⟨h.1, h.2.1, fun u hu => (h.2.2.1 u hu).turns t (hq u hu), fun j u hu => ?_⟩
 obtain ⟨b, o, ha, hl, c0, c1, c2, c3⟩ := h.2.2.2 j u hu
 have hb := hp _ ha
 exact ⟨b, o, ha, Nat.lt_of_lt_of_le hl t.size, t.cell (p := ⟨b, o + j * 4, none⟩) hb c0, t.cell (p := ⟨b, o + j * 4 + 1, none⟩) hb c1, t.cell (p := ⟨b, o + j * 4 + 2, none⟩) hb c2, t.cell (p := ⟨b, o + j * 4 + 3, none⟩) hb c3⟩
def OffT (b : Nat) (a : Option Addr) (ts : List TaskV) : Prop := (∀ x, a = some x → x.block ≠ b) ∧ ∀ u ∈ ts, ∀ x, u.a = some x → x.block ≠ b
theorem IsT.off {w w' : World} {b : Nat} {a : Option Addr} {c : Nat} {ts : List TaskV} (h : IsT w a c ts) (t : Turns (fun k => k = b) w w') (ho : OffT b a ts) : IsT w' a c ts := h.turns t (fun x hx => ho.1 x hx) (fun u hu x hx => ho.2 u hu x hx)
theorem boxL_set5 {w : World} {h : Nat} {v0 v1 v2 v3 v4 : Value} (b : BoxL w h [v0, v1, v2, v3, v4]) (u0 u1 u2 u3 u4 : Value) :
  BoxL (((((w.setCell ⟨h, 0, none⟩ u0).setCell ⟨h, 1, none⟩ u1).setCell ⟨h, 2, none⟩ u2).setCell ⟨h, 3, none⟩ u3).setCell ⟨h, 4, none⟩ u4) h [u0, u1, u2, u3, u4] := ((((b.set 0 u0).set 1 u1).set 2 u2).set 3 u3).set 4 u4
theorem below_setT {n h : Nat} {w w1 : World} (hb : Below n w w1) (hh : n ≤ h) (u0 u1 u2 u3 u4 : Value) :
  Below n w (((((w1.setCell ⟨h, 0, none⟩ u0).setCell ⟨h, 1, none⟩ u1).setCell ⟨h, 2, none⟩ u2).setCell ⟨h, 3, none⟩ u3).setCell ⟨h, 4, none⟩ u4) :=
 ((((hb.setCell (p := ⟨h, 0, none⟩) hh u0).setCell (p := ⟨h, 1, none⟩) hh u1).setCell (p := ⟨h, 2, none⟩) hh u2).setCell (p := ⟨h, 3, none⟩) hh u3).setCell (p := ⟨h, 4, none⟩) hh u4
theorem turns_set5 (w : World) (h : Nat) (u0 u1 u2 u3 u4 : Value) :
  Turns (fun k => k = h) w (((((w.setCell ⟨h, 0, none⟩ u0).setCell ⟨h, 1, none⟩ u1).setCell ⟨h, 2, none⟩ u2).setCell ⟨h, 3, none⟩ u3).setCell ⟨h, 4, none⟩ u4) :=
 (((((Turns.refl (fun k => k = h) w).setCell (p := ⟨h, 0, none⟩) rfl _).setCell (p := ⟨h, 1, none⟩) rfl _).setCell (p := ⟨h, 2, none⟩) rfl _).setCell (p := ⟨h, 3, none⟩) rfl _).setCell (p := ⟨h, 4, none⟩) rfl _
theorem turns_put (V : World) (D : Nat) (o : Obj) : Turns (fun k => k = D) V (V.putObj D o) := (Turns.refl _ _).grown (grownBy_putObj' V D o) fun k hk => by cases hk; rfl
theorem heap_turns {P : Nat → Prop} {w w' : World} {D : Nat} {o : Obj} (h : w.heap[D]? = some o) (t : Turns P w w') (hp : ¬ P D) : w'.heap[D]? = some o := (t.block D (Array.getElem?_eq_some_iff.1 h).1 hp).trans h
theorem turns_late {P : Nat → Prop} {w wr Z : World} (h : Turns P w wr) (t : Turns (fun k => w.heap.size ≤ k) wr Z) : Turns P w Z := by
 have h1 : Turns (fun k => P k ∨ w.heap.size ≤ k) w wr := h.mono fun k hk => Or.inl hk
 have h2 : Turns (fun k => P k ∨ w.heap.size ≤ k) wr Z := t.mono fun k hk => Or.inr hk
 exact (h1.trans h2).mono' fun k hk hh => hh.resolve_right (by omega)
def StoreS (W : World) (b o c : Nat) (ss : List StP) (i : Nat) (x : StP) : Nat → World → Prop
 | 0, V => Below W.heap.size W V
 | _, V => Turns (fun k => k = b) W V ∧ RowZ V b o c (ss.set i x)
theorem storeS_put {W U : World} {b o c : Nat} {ss : List StP} {i : Nat} {x : StP} (r : RowZ W b o c ss) (hi : i < ss.length) (hx : x.r.size ≤ maxLen) (hU : Below W.heap.size W U) : StoreS W b o c ss i x 1 (put5 U b (o + i * 5) x) :=
 ⟨(Turns.of_below hU).trans (put5_turns U b _ x), (r.below hU).put hi x hx⟩
theorem cancel_text {s : StP} (h : s.r.size ≤ maxLen) : (cancelT s).r.size ≤ maxLen := by unfold cancelT; split <;> exact h
theorem ready_text {s : StP} (h : s.r.size ≤ maxLen) : (readyT s).r.size ≤ maxLen := by unfold readyT; split <;> exact h
theorem isZ_src {w : World} {ad : Addr} {c : Nat} {ss : List StP} (h : IsZ w (some ad) c ss) : ∀ j u, (cellsZ ss)[j]? = some u → w.cell? (ad.add j) = some u := by
 intro j u hu
 have hj := (List.getElem?_eq_some_iff.1 hu).1
 rw [cellsZ_length] at hj
 obtain ⟨s, hs⟩ : ∃ s, ss[j / 5]? = some s := ⟨_, List.getElem?_eq_getElem (by omega)⟩
 obtain ⟨b, o, e0, -⟩ := h.some (by omega)
 cases e0
 obtain ⟨z0, z1, z2, z3, z4⟩ := h.at hs
 obtain ⟨c0, c1, c2, c3, c4⟩ := cellsZ_at hs
 have e : j = j / 5 * 5 + j % 5 := by omega
 have hm : j % 5 < 5 := Nat.mod_lt _ (by decide)
 generalize j / 5 = q at *
 generalize j % 5 = r at *
 subst e
 have ha : (⟨b, o, none⟩ : Addr).add (q * 5 + r) = ⟨b, o + q * 5 + r, none⟩ := by rw [at_add, Nat.add_assoc]
 rw [ha]
 match r, hm with
 | 0, _ => rw [Nat.add_zero] at hu; rw [c0] at hu; cases hu; exact z0
 | 1, _ => rw [c1] at hu; cases hu; exact z1
 | 2, _ => rw [c2] at hu; cases hu; exact z2
 | 3, _ => rw [c3] at hu; cases hu; exact z3
 | 4, _ => rw [c4] at hu; cases hu; exact z4
theorem cellsZ_one (ss : List StP) : ∀ u ∈ cellsZ ss, u.oneCell' = true := by
 intro u hu
 obtain ⟨s, _, hs⟩ := List.mem_flatMap.1 hu
 simp at hs
 rcases hs with rfl | rfl | rfl | rfl | rfl <;> rfl
theorem rowZ_of {w : World} {B g cap n : Nat} {ss : List StP} (h : w.ownsRow B 52 5 (.slice (some ⟨g, 0, none⟩) n cap) n (cellsZ ss)) (hn : n = ss.length) (hk : ∀ s ∈ ss, s.r.size ≤ maxLen) : RowZ w g 0 cap ss ∧ B ≤ g := by
 obtain ⟨a, c, e, hI, hF⟩ := owned_isZ h hn hk
 cases e
 have hl := (h.lt g rfl).2
 refine ⟨⟨hI, hl, fun k _ => ?_⟩, hF _ rfl⟩
 rcases h.2 with ⟨e, _⟩ | ⟨g', cap', cur, e, hg, hh, _⟩
 ·
  cases e
 ·
  cases e
  rw [Nat.zero_add]
  exact Joins.unfrozen_of_block hh k
set_option maxRecDepth 20000 in
set_option maxHeartbeats 1000000 in
theorem cloneZ_any (b o c n : Nat) (ss : List StP) (w : World) (hn : n = ss.length) (h0 : 0 < n) (hB : IsZ w (some ⟨b, o, none⟩) c ss) (h2 : n ≤ 4096) :
  ∃ g cap w1, Calls Try.prog 75 #[.slice (some ⟨b, o, none⟩) n c] w (fun e w' => e = .returned (.slice (some ⟨g, 0, none⟩) n cap) ∧ w' = w1) ∧ RowZ w1 g 0 cap ss ∧ w.heap.size ≤ g ∧ Below w.heap.size w w1 := by
 have q : ∀ (w : World) (a : Option Addr) (n c n' c' : Nat), (binOp .eql 25 (.slice a n c) (.slice none n' c')).run Try.prog w = .ok (.bool a.isNone) w := fun w a n c n' c' => Lib.run_eql_slice_nil w _ _ a n c n' c' Try.underlying25
 obtain ⟨i0, hi, hz0, hz1, hz2⟩ := info_parts Try.info52
 have hown := World.ownsRow_made (base := w.heap.size) (e := 52) (size := 5) w #[] 0 (Nat.le_refl _) (Nat.zero_le _) rfl
 have hB0 := (Below.refl w.heap.size w).alloc (Nat.le_refl _) (.cells #[] 52)
 obtain ⟨v', w', hrun, p2, p3, p4⟩ := run_append_own (P := Try.prog) (w.alloc (.cells #[] 52)) w.heap.size 25 25 52 i0 _ 5 48 Try.underlying25 hi hz0 hz1 hz2 rfl (by decide) _ 0 _ hown ⟨b, o, none⟩ n c (cellsZ ss) (by rw [cellsZ_length, hn]) (isZ_src (hB.below hB0)) (cellsZ_one ss) (by unfold maxLen; omega) (by omega) (by simp)
 simp only [Nat.zero_add] at p2 hrun
 rcases id p2.2 with ⟨e, e0⟩ | ⟨g, cap, cur, rfl, -⟩
 ·
  omega
 ·
  obtain ⟨hR, hg⟩ := rowZ_of (B := w.heap.size) (by simpa using p2) hn (fun s hs => by
   obtain ⟨j, hj⟩ := List.getElem?_of_mem hs
   exact hB.text hj)
  refine ⟨g, cap, w', ?_, hR, hg, hB0.grown p3 (by simp) (by intro k hk; simp [Value.ownBlock] at hk; omega)⟩
  clear hR hB hn p2 p3 p4 hown hB0 hg
  go_enter Try.func75, Try.ntmps75
  go_wp2_with (at_builtin; refine Lib.wpList_append_run _ rfl _ _ _ _ rfl _ _ rfl rfl _ _ hrun ?_)
  go_ret
  exact ⟨rfl, rfl⟩
set_option maxRecDepth 20000 in
set_option maxHeartbeats 1000000 in
theorem cloneK_any (b o c n : Nat) (ts : List TaskV) (w : World) (hn : n = ts.length) (hB : IsT w (some ⟨b, o, none⟩) c ts) (h2 : n ≤ 4096) :
  ∃ g cap w1, Calls Try.prog 74 #[.slice (some ⟨b, o, none⟩) n c] w (fun e w' => e = .returned (.slice (some ⟨g, 0, none⟩) n cap) ∧ w' = w1) ∧ RowK w1 g cap ts ∧ w.heap.size ≤ g ∧ Below w.heap.size w w1 := by
 have q : ∀ (w : World) (a : Option Addr) (n c n' c' : Nat), (binOp .eql 22 (.slice a n c) (.slice none n' c')).run Try.prog w = .ok (.bool a.isNone) w := fun w a n c n' c' => Lib.run_eql_slice_nil w _ _ a n c n' c' Try.underlying22
 obtain ⟨g, cap, w', hrun, hg, hR, hb⟩ := copyK w (some ⟨b, o, none⟩) c n ts hn hB (by omega) 22
 refine ⟨g, cap, w', ?_, hR, hg, hb⟩
 clear hR hg hb hn hB
 go_enter Try.func74, Try.ntmps74
 go_wp2_with (at_builtin; refine Lib.wpList_append_run _ rfl _ _ _ _ rfl _ _ rfl rfl _ _ hrun ?_)
 go_ret
 exact ⟨rfl, rfl⟩
theorem isI_srcN {w : World} {ad : Addr} {c : Nat} {ns : List Int} (h : IsI w (some ad) c ns) : ∀ j u, (ns.map (Value.int .i64))[j]? = some u → w.cell? (ad.add j) = some u := by
 intro j u hu
 rw [List.getElem?_map] at hu
 obtain ⟨x, hx, rfl⟩ := Option.map_eq_some_iff.1 hu
 obtain ⟨b, o, e, _, hc⟩ := h.2.2 j x hx
 cases e
 rw [at_add]
 exact hc
set_option maxRecDepth 20000 in
set_option maxHeartbeats 1000000 in
theorem cloneN_any (a : Option Addr) (c n : Nat) (ns : List Int) (w : World) (hn : n = ns.length) (hB : IsI w a c ns) (h2 : n ≤ 4096) :
  ∃ x cap w1, Calls Try.prog 76 #[.slice a n c] w (fun e w' => e = .returned (.slice x n cap) ∧ w' = w1) ∧ IsI w1 x cap ns ∧ From w.heap.size x ∧ Below w.heap.size w w1 := by
 have q : ∀ (w : World) (a : Option Addr) (n c n' c' : Nat), (binOp .eql 48 (.slice a n c) (.slice none n' c')).run Try.prog w = .ok (.bool a.isNone) w := fun w a n c n' c' => Lib.run_eql_slice_nil w _ _ a n c n' c' Try.underlying48
 cases a with
 | none =>
  have h0 : ns = [] := by
   cases ns with
   | nil => rfl
   | cons x xs => obtain ⟨_, _, e, _⟩ := hB.2.2 0 x rfl; cases e
  subst h0
  have hn0 : n = 0 := hn
  subst hn0
  refine ⟨none, 0, w, ?_, ⟨Nat.le_refl _, Nat.zero_le _, fun j m hj => by simp at hj⟩, from_nil _, Below.refl _ _⟩
  clear hn hB
  go_enter Try.func76, Try.ntmps76
  go_wp2
  go_ret
  exact ⟨rfl, rfl⟩
 | some ad =>
  obtain ⟨i0, hi, hz0, hz1, hz2⟩ := info_parts Try.info3
  have hown := World.ownsRow_made (base := w.heap.size) (e := 3) (size := 1) w #[] 0 (Nat.le_refl _) (Nat.zero_le _) rfl
  have hB0 := (Below.refl w.heap.size w).alloc (Nat.le_refl _) (.cells #[] 3)
  obtain ⟨v', w', hrun, p2, p3, p4⟩ := run_append_own (P := Try.prog) (w.alloc (.cells #[] 3)) w.heap.size 48 48 3 i0 _ 1 8 Try.underlying48 hi hz0 hz1 hz2 rfl (by decide) _ 0 _ hown ad n c (ns.map (Value.int .i64)) (by rw [List.length_map, hn, Nat.mul_one]) (isI_srcN (hB.below hB0)) (fun u hu => by obtain ⟨x, _, rfl⟩ := List.mem_map.1 hu; rfl) (by unfold maxLen; omega) (by omega) (by simp)
  simp only [Nat.zero_add] at p2 hrun
  obtain ⟨x, cap, rfl, e, hI, hF⟩ := owns_I (base := w.heap.size) (by simpa using p2)
  refine ⟨x, cap, w', ?_, hI, hF, hB0.grown p3 (by simp) (by intro k hk; simp [Value.ownBlock] at hk; omega)⟩
  clear hI hF p2 p3 p4 hown hB0 hn hB e
  go_enter Try.func76, Try.ntmps76
  go_wp2_with (at_builtin; refine Lib.wpList_append_run _ rfl _ _ _ _ rfl _ _ rfl rfl _ _ hrun ?_)
  go_ret
  exact ⟨rfl, rfl⟩
theorem cellsT_move {ts : List TaskV} {j : Nat} {t : TaskV} (h : ts[j]? = some t) (x : Option Addr) (c : Nat) : cellsT (ts.set j { t with a := x, c := c }) = (cellsT ts).set (j * 4) (.slice x t.ns.length c) := by
 induction ts generalizing j with
 | nil => simp at h
 | cons q ps ih =>
  cases j with
  | zero => simp at h; subst h; rfl
  | succ j =>
   rw [List.getElem?_cons_succ] at h
   rw [List.set_cons_succ, cellsT_cons, cellsT_cons, ih h, show (j + 1) * 4 = j * 4 + 1 + 1 + 1 + 1 by omega]
   rfl
theorem RowK.move {w : World} {g cap : Nat} {ts : List TaskV} (h : RowK w g cap ts) {j : Nat} {t : TaskV} (ht : ts[j]? = some t) (x : Option Addr) (c : Nat) : RowK (w.setCell ⟨g, j * 4, none⟩ (.slice x t.ns.length c)) g cap (ts.set j { t with a := x, c := c }) := by
 obtain ⟨cur, hg, hk, hl, hx, hs⟩ := h
 refine ⟨_, Joins.block_setCell hg _, ?_, by rw [List.length_set]; exact hl, hx, by rw [Array.size_setIfInBounds]; exact hs⟩
 rw [List.length_set, Array.toList_setIfInBounds, List.take_set, hk, cellsT_move ht x c]
end Go.Proofs.Ytdpljpjbomhccaa
namespace Go.Proofs.Ytdpljpjbomhccaa
open Go.RowKit Go.Shelf
set_option linter.unusedVariables false
def Hands {α : Type} (n : Nat) (g : Nat) (lb : Array Value) (encs : α → Array Value) (C : List α) (Good : List α → World → Prop) (w : World) : Prop :=
 ∀ (l : Nat) (J Jx : List α → World → Prop) (W : World), Below w.heap.size w W → AbidesFrom W.heap.size J → AbidesFrom W.heap.size Jx → (∀ pre V, J pre V → Good pre V) →
  (∀ pre x V, J pre V → pre ++ [x] <+: C → YieldAt Fence.wide (n - 1) Try.prog l (encs x) V fun e V' => (e = .returned (.bool true) ∧ J (pre ++ [x]) V') ∨ (e = .returned (.bool false) ∧ Jx (pre ++ [x]) V')) →
  J [] W → CallsIn Fence.wide n Try.prog g (#[.func (.yield l) #[] #[]] ++ lb) W fun e W' => (∃ v, e = .returned v) ∧ (J C W' ∨ ∃ pre, pre <+: C ∧ Jx pre W')
def Kept2 (D : Nat) (r : Loop) (V : World) : Prop := V.heap[D + 1]? = some (.loop r) ∧ V.heap[D]? = some (.deferred (some []))
theorem Kept2.grown {D : Nat} {r : Loop} {V V' : World} {row : Option Nat} (h : Kept2 D r V) (hg : V.grownBy V' row) (hr : ∀ k, row = some k → ∃ o : Obj, V.heap[k]? = some o ∧ o.isWalk = true) : Kept2 D r V' :=
 ⟨(grownBy_keeps hg hr h.1 rfl).trans h.1, (grownBy_keeps hg hr h.2 rfl).trans h.2⟩
theorem Kept2.keeps {B D : Nat} {r : Loop} {V V' : World} (h : Kept2 D r V) (k : KeepsFrom B V V') (hB : B ≤ D) : Kept2 D r V' :=
 ⟨k.same _ _ (by omega) h.1 rfl, k.same _ _ hB h.2 rfl⟩
theorem Kept2.turn {D : Nat} {r : Loop} {V : World} (h : Kept2 D r V) (r' : Loop) : Kept2 D r' (V.putObj (D + 1) (.loop r')) :=
 ⟨World.putObj_heap_same (Array.getElem?_eq_some_iff.1 h.1).1, (World.putObj_heap_other (by omega)).trans h.2⟩
variable {n : Nat} {w : World}
theorem range_known {α : Type} {g : Operand} {ps : Array Tmp} {assign body : Code} {Q : Exit → Act → World → Prop} {a : Act} {gf : Nat} {lb : Array Value} {encs : α → Array Value} {C : List α} {Good : List α → World → Prop}
  (hg : a.eval g = .func (.func gf) #[] lb) (eg : ∀ args w, (callFunc gf args).run Try.prog w = .ok (.enter gf args) w) (hC : Hands (n - 1) gf lb encs C Good w) (hps : ∀ x, (encs x).size = ps.size)
  (I : List α → World → Prop) (Ix : Code → List α → World → Prop) (hI : OwnFrom w.heap.size I) (hIx : ∀ c, OwnFrom w.heap.size (Ix c)) (hG : ∀ pre V, I pre V → Good pre V) (h0 : I [] w)
  (Ax : α → Act → World → Prop) (hAx : ∀ x a', OwnFrom w.heap.size (fun (_ : Unit) V => Ax x a' V))
  (hassign : ∀ (l : Nat) (pre : List α) (x : α) (V : World) (K : Act → World → Prop), I pre V → pre ++ [x] <+: C → (∀ a' V', KeepsFrom w.heap.size V V' → I pre V' → Ax x a' V' → K a' V') →
   assign.wpIn (Fence.wide.inRound l) (n - 1 - 1) Try.prog (Exit.then K (fun _ _ _ => False)) { tmps := (ps.zip (encs x)).foldl (fun t (p, v) => t.setIfInBounds p v) a.tmps, defers := [] } V)
  (hbody : ∀ (l : Nat) (pre : List α) (x : α) (a' : Act) (V : World), I pre V → Ax x a' V → pre ++ [x] <+: C → body.wpIn (Fence.wide.inRound l) (n - 1 - 1) Try.prog (ownPostG w.heap.size (fun _ _ => True) I Ix (pre ++ [x]) V) a' V)
  (hdone : ∀ (D : Nat) (V : World), w.heap.size ≤ D → I C V → V.heap[D]? = some (.deferred (some [])) → Q .normal { a with defers := { target := .collected D, args := #[] } :: a.defers } V)
  (hstop : ∀ (D : Nat) (c : Code) (pre : List α) (V : World), w.heap.size ≤ D → pre <+: C → Ix c pre V → V.heap[D]? = some (.deferred (some [])) → c.wpIn Fence.wide n Try.prog Q { a with defers := { target := .collected D, args := #[] } :: a.defers } V) :
  (Code.rangeFunc g ps assign body).wpIn Fence.wide n Try.prog Q a w := by
 refine wpIn_rangeFunc fun fn _ => ?_
 obtain ⟨R, hR⟩ : ∃ R : LoopState → Option Code → Loop, ∀ s p, R s p = { state := s, pending := p, fn, tmps := a.tmps, params := ps, assign, body, defers := w.heap.size } := ⟨_, fun _ _ => rfl⟩
 obtain ⟨D, hD⟩ : ∃ D, D = w.heap.size := ⟨_, rfl⟩
 obtain ⟨V1, hV1⟩ : ∃ V1, V1 = (w.alloc (.deferred (some []))).alloc (.loop (R .ready none)) := ⟨_, rfl⟩
 have k1 : Kept2 D (R .ready none) V1 := by
  subst hD hV1
  refine ⟨?_, (Below.heap_alloc _ _ _ (by simp)).trans (World.alloc_heap_new w _)⟩
  have := World.alloc_heap_new (w.alloc (.deferred (some []))) (.loop (R .ready none))
  rwa [World.size_alloc] at this
 have b1 : Below w.heap.size w V1 := by subst hV1; exact ((Below.refl _ w).alloc (Nat.le_refl _) _).alloc (by simp) _
 have i1 : I [] V1 := by subst hV1; exact hI.alloc _ (hI.alloc _ h0)
 have turnI : ∀ {β : Type} {T : β → World → Prop} {s : β} {V : World} {r : Loop} (r' : Loop), OwnFrom w.heap.size T → T s V → Kept2 D r V → T s (V.putObj (D + 1) (.loop r')) := fun r' ho hs hk => ho.putObj _ hs (by omega) hk.1 rfl
 have late : ∀ {V V' : World} {row : Option Nat}, (∀ r, row = some r → V1.heap.size ≤ r ∧ ∃ o : Obj, V.heap[r]? = some o ∧ o.isWalk = true) → (∀ r, row = some r → w.heap.size ≤ r ∧ ∃ o : Obj, V.heap[r]? = some o ∧ o.isCells = false) := fun hr r e => by
  obtain ⟨x1, o, x2, x3⟩ := hr r e
  exact ⟨Nat.le_trans b1.size x1, o, x2, Obj.not_cells_of_walk x3⟩
 refine ⟨D + 1, [{ target := .collected D, args := #[] }], V1, { target := .fn (.func gf) lb, args := #[.func (.yield (D + 1)) #[] #[]] }, V1, gf, #[.func (.yield (D + 1)) #[] #[]] ++ lb, V1, ?_, ?_, fun _ _ => trivial, ?_, fun h => (by cases h), ?_⟩
 ·
  subst hD; rw [hV1, hR]; exact run_enterLoop_outer _ _ _ _ _
 ·
  simp only [resolve, hg]; simp [go_sem]
 ·
  simp [invoke, go_sem, eg]
 refine (hC (D + 1) (fun pre V => I pre V ∧ Kept2 D (R .ready none) V) (fun pre V => ∃ c, Ix c pre V ∧ Kept2 D (R .done (some c)) V) V1 b1 ?_ ?_ (fun pre V h => hG pre V h.1) ?_ ⟨i1, k1⟩).mono ?_
 ·
  exact fun s V V' row h hg hr => ⟨hI s V V' row h.1 hg (late (V' := V') hr), h.2.grown hg fun r e => (hr r e).2⟩
 ·
  rintro s V V' row ⟨c, h, hk⟩ hg hr
  exact ⟨c, hIx c s V V' row h hg (late (V' := V') hr), hk.grown hg fun r e => (hr r e).2⟩
 ·
  -- a round
  rintro pre x V ⟨hi, hk⟩ hpre
  have hy := run_yield (P := Try.prog) (args := encs x) hk.1 (by rw [hR]; exact hps x)
  rw [hR] at hy
  refine ⟨fn, _, assign, body, hy, roundIn_of_wpIn trivial (hassign _ pre x V _ hi hpre fun a' Va ka ia xa => ?_)⟩
  have hka := hk.keeps ka (by omega)
  refine ⟨_, run_beginRound hka.1 (by rw [hR]), ?_⟩
  refine wpIn_mono (hbody _ pre x a' _ (turnI _ hI ia hka) (turnI (s := ()) _ (hAx x a') xa hka) hpre) ?_
  have hkb := hka.turn { R .ready none with state := .busy }
  have fin : ∀ (jump : Option Code) (V3 : World), KeepsFrom w.heap.size (Va.putObj (D + 1) (.loop { R .ready none with state := .busy })) V3 →
    (Instr.endRound (D + 1) jump).run Try.prog V3 = .ok (.bool jump.isNone) (V3.putObj (D + 1) (.loop (R (if jump.isNone then .ready else .done) jump))) ∧
    (∀ {β : Type} {T : β → World → Prop} {s : β}, OwnFrom w.heap.size T → T s V3 → T s (V3.putObj (D + 1) (.loop (R (if jump.isNone then .ready else .done) jump)))) ∧ Kept2 D (R (if jump.isNone then .ready else .done) jump) (V3.putObj (D + 1) (.loop (R (if jump.isNone then .ready else .done) jump))) := fun jump V3 k3 => by
   have h3 := hkb.keeps k3 (by omega)
   refine ⟨?_, fun ho hs => turnI _ ho hs h3, h3.turn _⟩
   have := run_endRound (P := Try.prog) jump h3.1
   rw [hR] at this ⊢
   exact this
  rintro e a3 V3 hp
  cases e with
  | normal =>
   obtain ⟨y1, y2, y3⟩ := fin none V3 hp.1
   exact ⟨_, _, y1, .inl ⟨rfl, y2 hI hp.2.2, y3⟩⟩
  | ret =>
   obtain ⟨y1, y2, y3⟩ := fin (some .ret) V3 hp.1
   exact ⟨_, _, y1, .inr ⟨rfl, .ret, y2 (hIx _) hp.2, y3⟩⟩
  | exit id =>
   obtain ⟨y1, y2, y3⟩ := fin (some (.exit id)) V3 hp.1
   exact ⟨_, _, y1, .inr ⟨rfl, .exit id, y2 (hIx _) hp.2, y3⟩⟩
  | goto t =>
   obtain ⟨y1, y2, y3⟩ := fin (some (.goto t)) V3 hp.1
   exact ⟨_, _, y1, .inr ⟨rfl, .goto t, y2 (hIx _) hp.2, y3⟩⟩
  | panic ch => exact hp.elim
  | outgrown => exact hp.elim
 ·
  -- behind it
  rintro e V2 ⟨⟨v, rfl⟩, (⟨hi, hk⟩ | ⟨pre, hpre, c, hi, hk⟩)⟩
  ·
   have := run_endLoop (P := Try.prog) hk.1 (by rw [hR]; simp)
   rw [hR] at this
   exact ⟨none, _, this, hdone _ _ (by omega) (turnI _ hI hi hk) (hk.turn _).2⟩
  ·
   have := run_endLoop (P := Try.prog) hk.1 (by rw [hR]; simp)
   rw [hR] at this
   exact ⟨some c, _, this, hstop _ c pre _ (by omega) hpre (turnI _ (hIx c) hi hk) (hk.turn _).2⟩
end Go.Proofs.Ytdpljpjbomhccaa
namespace Go.Proofs.Ytdpljpjbomhccaa
open Go.RowKit Plain
set_option linter.unusedVariables false
theorem not_take {ms : List Int} {v x : Int} {j : Nat} (h : ∀ y ∈ ms.take j, ¬ y = v) (hx : ms[j]? = some x) (hne : ¬ v = x) : ∀ y ∈ ms.take (j + 1), ¬ y = v := by
 intro y hy
 rw [List.take_add_one, hx] at hy
 simp at hy
 rcases hy with hy | hy
 ·
  exact h y hy
 ·
  subst hy; exact fun e => hne e.symm
set_option maxHeartbeats 400000 in
theorem index_any (a : Option Addr) (c : Nat) (ms : List Int) (v : Int) (w : World) (hI : IsI w a c ms) :
  Calls Try.prog 98 #[.slice a ms.length c, .int .i64 v] w fun e w' => (∃ r : Int, e = .returned (.int .i64 r) ∧ (decide (0 ≤ r) = decide (v ∈ ms))) ∧ w = w' := by
 have hm : ms.length ≤ 9223372036854775807 := Nat.le_trans hI.1 hI.2.1
 have HI : Hid (IsI w a c ms) := hI
 clear hI
 go_enter Try.func98, Try.ntmps98
 go_wp2
 go_loop [8] (fun u => ∃ j : Nat, j ≤ ms.length ∧ u = .int .i64 j ∧ ∀ y ∈ ms.take j, ¬ y = v) (fun u => ms.length - (intOf u).toNat)
 case atStart => exact ⟨0, by omega, rfl, fun y hy => by simp at hy⟩
 case round =>
  obtain ⟨j, hj, rfl, HA⟩ := hrel
  by_cases hlt : j < ms.length
  ·
   obtain ⟨x, hx⟩ : ∃ x, ms[j]? = some x := ⟨_, List.getElem?_eq_getElem hlt⟩
   obtain ⟨b, o, rfl, hlb, hc⟩ := HI.out.2.2 j x hx
   have hmem : Hid (x ∈ ms) := List.mem_of_getElem? hx
   have hA' : Hid (¬ v = x → ∀ y ∈ ms.take (j + 1), ¬ y = v) := not_take HA hx
   clear HA hx hlb
   have hlt' : (j : Int) < ms.length := by omega
   by_cases he : v = x
   ·
    subst he
    go_wp2
    go_ret
    exact ⟨⟨j, rfl, by simpa using hmem.out⟩, rfl⟩
   ·
    have he' : (v == x) = false := by simpa using he
    go_wp2
    go_round
    case rel => exact ⟨j + 1, by omega, by go_num, hA'.out he⟩
    case measure => simp [intOf]; omega
  ·
   obtain rfl : j = ms.length := by omega
   rw [List.take_length] at HA
   have HB : Hid (¬ v ∈ ms) := fun h => HA v h rfl
   clear HA hj hlt
   go_wp2
   go_ret
   exact ⟨⟨-1, rfl, by simpa using HB.out⟩, rfl⟩
theorem contains_any (a : Option Addr) (c : Nat) (ms : List Int) (v : Int) (w : World) (hI : IsI w a c ms) :
  Calls Try.prog 85 #[.slice a ms.length c, .int .i64 v] w fun e w' => e = .returned (.bool (decide (v ∈ ms))) ∧ w = w' := by
 have c1 := index_any a c ms v w hI
 obtain ⟨n, hn⟩ : ∃ n, n = ms.length := ⟨_, rfl⟩
 rw [← hn] at c1 ⊢
 clear hI hn
 go_enter Try.func85, Try.ntmps85
 go_wp2_with (go_at_call 98; refine c1.mono ?_; rintro e w1 ⟨⟨r, rfl, hr⟩, rfl⟩; have hr' : Hid _ := hr; clear hr)
 go_ret
 exact ⟨ret_bool hr'.out, rfl⟩
end Go.Proofs.Ytdpljpjbomhccaa
namespace Go.Proofs.Ytdpljpjbomhccaa
open Go.RowKit Go.Shelf Plain
set_option linter.unusedVariables false
attribute [local go_sem] Oper.semAt_some
def candTo (ks : List Int) (ss : List StP) (k : Nat) : List (Nat × StP) := ((List.range k).filter fun j => decide ((ss[j]?.getD zeroT).i ∈ ks)).map fun j => (j, ss[j]?.getD zeroT)
def candL (ks : List Int) (ss : List StP) : List (Nat × StP) := candTo ks ss ss.length
theorem candTo_yes {ks : List Int} {ss : List StP} {k : Nat} {s : StP} (hs : ss[k]? = some s) (h : s.i ∈ ks) : candTo ks ss (k + 1) = candTo ks ss k ++ [(k, s)] := by
 unfold candTo; rw [List.range_succ, List.filter_append, List.map_append, List.filter_cons, hs]; simp [h, hs]
theorem candTo_no {ks : List Int} {ss : List StP} {k : Nat} {s : StP} (hs : ss[k]? = some s) (h : ¬ s.i ∈ ks) : candTo ks ss (k + 1) = candTo ks ss k := by
 unfold candTo; rw [List.range_succ, List.filter_append, List.map_append, List.filter_cons, hs]; simp [h]
theorem candTo_pre (ks : List Int) (ss : List StP) {k m : Nat} (h : k ≤ m) : candTo ks ss k <+: candTo ks ss m := by
 obtain ⟨d, rfl⟩ := Nat.exists_eq_add_of_le h
 unfold candTo
 rw [List.range_add, List.filter_append, List.map_append]
 exact List.prefix_append _ _
theorem candTo_lt {ks : List Int} {ss : List StP} {k : Nat} {x : Nat × StP} (h : x ∈ candTo ks ss k) : x.1 < k := by
 unfold candTo at h
 obtain ⟨j, hj, rfl⟩ := List.mem_map.1 h
 exact List.mem_range.1 (List.mem_filter.1 hj).1
theorem candL_mem {ks : List Int} {ss : List StP} {x : Nat × StP} (h : x ∈ candL ks ss) : ss[x.1]? = some x.2 ∧ x.2.i ∈ ks := by
 unfold candL candTo at h
 obtain ⟨j, hj, rfl⟩ := List.mem_map.1 h
 obtain ⟨h1, h2⟩ := List.mem_filter.1 hj
 have hl := List.mem_range.1 h1
 rw [List.getElem?_eq_getElem hl] at h2 ⊢
 exact ⟨rfl, by simpa using h2⟩
theorem cand_next {ks : List Int} {ss : List StP} {pre : List (Nat × StP)} {x : Nat × StP} (h : pre ++ [x] <+: candL ks ss) : ss[x.1]? = some x.2 ∧ x.2.i ∈ ks ∧ pre = candTo ks ss x.1 := by
 have hx : x ∈ candL ks ss := h.subset (by simp)
 obtain ⟨h1, h2⟩ := candL_mem hx
 refine ⟨h1, h2, ?_⟩
 have hl := (List.getElem?_eq_some_iff.1 h1).1
 have e := candTo_yes (ks := ks) h1 h2
 have p1 : candTo ks ss x.1 ++ [x] <+: candL ks ss := by rw [show candTo ks ss x.1 ++ [x] = candTo ks ss (x.1 + 1) from e.symm]; exact candTo_pre ks ss hl
 have all : ∀ {l : List (Nat × StP)} {k : Nat}, l <+: candTo ks ss k → l.Pairwise (fun a b => a.1 < b.1) := fun {l k} hl => by
  have : (candTo ks ss k).Pairwise (fun a b => a.1 < b.1) := by
   unfold candTo
   rw [List.pairwise_map]
   exact (List.Pairwise.filter _ List.pairwise_lt_range)
  exact this.sublist hl.sublist
 have q1 := all h
 have q2 := all p1
 rw [List.pairwise_append] at q1 q2
 rcases List.prefix_or_prefix_of_prefix h p1 with hp | hp
 ·
  have hp' := hp
  obtain ⟨t, ht⟩ := hp
  rcases List.eq_nil_or_concat t with rfl | ⟨t', y, rfl⟩
  ·
   rw [List.append_nil] at ht; exact (List.append_inj' ht rfl).1
  ·
   rw [List.concat_eq_append, ← List.append_assoc] at ht
   obtain ⟨e1, e2⟩ := List.append_inj' ht rfl
   have := q2.2.2 x (by rw [← e1]; simp) x (by simp)
   omega
 ·
  obtain ⟨t, ht⟩ := hp
  rcases List.eq_nil_or_concat t with rfl | ⟨t', y, rfl⟩
  ·
   rw [List.append_nil] at ht; exact (List.append_inj' ht rfl).1.symm
  ·
   rw [List.concat_eq_append, ← List.append_assoc] at ht
   obtain ⟨e1, e2⟩ := List.append_inj' ht rfl
   have := q1.2.2 x (by rw [← e1]; simp) x (by simp)
   omega
def GoodT (Bs Bk : Nat) (sa : Option Addr) (n sc : Nat) (ka : Option Addr) (m kc : Nat) (ks : List Int) (ss : List StP) (pre : List (Nat × StP)) (V : World) : Prop :=
 V.cell? ⟨Bs, 0, none⟩ = some (.slice sa n sc) ∧ V.cell? ⟨Bk, 0, none⟩ = some (.slice ka m kc) ∧ IsI V ka kc ks ∧ ∃ zs : List StP, IsZ V sa sc zs ∧ zs.length = n ∧ ∀ j, (∀ x ∈ pre, x.1 < j) → zs[j]? = ss[j]?
def encZ (x : Nat × StP) : Array Value := #[.int .i64 x.1, .agg #[.int .i64 x.2.i, .int .i64 x.2.t, .int .i64 x.2.d, .int .i64 x.2.k, .string x.2.r]]
set_option maxRecDepth 100000 in
set_option maxHeartbeats 2000000 in
theorem those1_hands (d : Nat) (hd : 1 ≤ d) (Bs Bk : Nat) (sa : Option Addr) (n sc : Nat) (ka : Option Addr) (m kc : Nat) (ks : List Int) (ss : List StP) (hn : n = ss.length) (hm : m = ks.length) (w : World) :
  Hands d 84 #[.pointer (some ⟨Bs, 0, none⟩), .pointer (some ⟨Bk, 0, none⟩)] encZ (candL ks ss) (GoodT Bs Bk sa n sc ka m kc ks ss) w := by
 intro l J Jx W hW hJ hJx hG hY h0
 have HN : Hid (n = ss.length) := hn
 obtain ⟨g0, -, -, zs0, hz0, hl0, -⟩ := hG _ _ h0
 have hnc : n ≤ sc := by rw [← hl0]; exact hz0.1
 have hcm : sc ≤ 9223372036854775807 := hz0.2.1
 have HM : Hid (m = ks.length) := hm
 clear hz0 hl0 zs0 hn hm
 refine callsIn_of_wp Try.func84 rfl trivial ?_ rfl
 simp only [Try.ntmps84, List.size_toArray, List.length_cons, List.length_nil, Nat.reduceAdd, Nat.reduceSub, Array.replicate_succ, Array.replicate_zero, List.push_toArray, List.append_toArray, List.nil_append, List.cons_append]
 gi_wp2
 gi_loopw [8] (fun i wr => ∃ k : Nat, k ≤ n ∧ i = .int .i64 k ∧ J (candTo ks ss k) wr) (fun i _ => n - (intOf i).toNat)
 case atStart => exact ⟨0, Nat.zero_le _, rfl, h0⟩
 case round =>
  clear g0
  obtain ⟨k, hk, rfl, hJs⟩ := hrel
  by_cases hlt : k < n
  ·
   have hlt' : (k : Int) < n := by omega
   obtain ⟨g1, g2, gI, zs, gZ, gl, ge⟩ := hG _ _ hJs
   obtain ⟨s, hs⟩ : ∃ s, ss[k]? = some s := ⟨_, List.getElem?_eq_getElem (by rw [← HN.out]; exact hlt)⟩
   have hz : zs[k]? = some s := (ge k (fun x hx => candTo_lt hx)).trans hs
   obtain ⟨b, o, rfl, hbl⟩ := gZ.some (by omega)
   obtain ⟨z0, z1, z2, z3, z4⟩ := gZ.at hz
   have hkl : k + 1 ≤ ss.length := by rw [← HN.out]; omega
   obtain ⟨W2, hW2⟩ : ∃ W2, W2 = wr.alloc (.cells #[.int .i64 s.i, .int .i64 s.t, .int .i64 s.d, .int .i64 s.k, .string s.r] 52) := ⟨_, rfl⟩
   have hJ2 : J (candTo ks ss k) W2 := by rw [hW2]; exact hJ _ _ _ none hJs (World.grownBy_alloc wr _ none) (fun r e => by cases e)
   have b2 : Below wr.heap.size wr W2 := by rw [hW2]; exact (Below.refl _ _).alloc (Nat.le_refl _) _
   have cC : Calls Try.prog 85 #[.slice ka m kc, .int .i64 s.i] W2 fun e w' => e = .returned (.bool (decide (s.i ∈ ks))) ∧ W2 = w' := by
    have := contains_any ka kc ks s.i W2 (gI.below b2)
    rw [← HM.out] at this
    exact this
   have gk := cell_below b2 g2
   by_cases hin : s.i ∈ ks
   ·
    have hto : Hid (candTo ks ss (k + 1) = candTo ks ss k ++ [(k, s)]) := candTo_yes hs hin
    obtain ⟨fn, tmps, assign, body, hy, hR⟩ := hY _ (k, s) W2 hJ2 (by rw [← hto.out]; exact candTo_pre ks ss hkl)
    rw [decide_eq_true hin] at cC
    have hJ3 : ∀ V, J (candTo ks ss k ++ [(k, s)]) V → J (candTo ks ss (k + 1)) V := fun V h => by rw [hto.out]; exact h
    have hJx3 : ∀ V, Jx (candTo ks ss k ++ [(k, s)]) V → ∃ pre, pre <+: candL ks ss ∧ Jx pre V := fun V h => ⟨_, by rw [← hto.out]; exact candTo_pre ks ss hkl, h⟩
    dsimp only [encZ] at hy
    clear hin hs hz hto ge gZ
    obtain ⟨si, st, sd, sk, sr⟩ := s
    dsimp only at *
    rw [hW2] at cC hy hR gk
    clear hW2 hJ2 b2
    gi_wp2_with (refine ⟨trivial, ?_⟩; gi_at_call 85; refine (callsIn_wide.2 cC).mono ?_; rintro e w1 ⟨rfl, rfl⟩)
    refine hR.mono ?_
    rintro e W3 (⟨rfl, hJ4⟩ | ⟨rfl, hJx4⟩)
    ·
     gi_wp2
     go_roundw
     case rel => exact ⟨k + 1, by omega, by go_num, hJ3 _ hJ4⟩
     case measure => simp [intOf]; omega
    ·
     gi_wp2
     refine bodyPost_ret (results_none rfl _ _ _) rfl ?_
     exact ⟨⟨_, rfl⟩, .inr (hJx3 _ hJx4)⟩
   ·
    have hto : Hid (candTo ks ss (k + 1) = candTo ks ss k) := candTo_no hs hin
    rw [decide_eq_false hin] at cC
    have hJ3 : J (candTo ks ss (k + 1)) W2 := by rw [hto.out]; exact hJ2
    clear hin hs hz hto ge gZ hJ2
    obtain ⟨si, st, sd, sk, sr⟩ := s
    dsimp only at *
    rw [hW2] at cC gk hJ3
    clear hW2 b2
    gi_wp2_with (refine ⟨trivial, ?_⟩; gi_at_call 85; refine (callsIn_wide.2 cC).mono ?_; rintro e w1 ⟨rfl, rfl⟩)
    refine ⟨fun _ h => (by cases h), ?_⟩
    gi_wp2
    go_roundw
    case rel => exact ⟨k + 1, by omega, by go_num, hJ3⟩
    case measure => simp [intOf]; omega
  ·
   obtain rfl : k = n := by omega
   have hx : ¬ (k : Int) < k := by omega
   have hE : J (candL ks ss) wr := by unfold candL; rw [← HN.out]; exact hJs
   clear hJs
   gi_wp2
   go_end0
   exact ⟨⟨_, rfl⟩, .inl hE⟩
theorem thoseR_any (sa : Option Addr) (n sc : Nat) (ka : Option Addr) (m kc : Nat) (w : World) (d : Nat) :
  CallsIn Fence.wide d Try.prog 50 #[.slice sa n sc, .slice ka m kc] w fun e w' => e = .returned (.func (.func 84) #[] #[.pointer (some ⟨w.heap.size, 0, none⟩), .pointer (some ⟨w.heap.size + 1, 0, none⟩)]) ∧ w' = (w.alloc (.cells #[.slice sa n sc] 25)).alloc (.cells #[.slice ka m kc] 48) := by
 refine callsIn_of_wp Try.func50 rfl trivial ?_ rfl
 simp only [Try.ntmps50, List.size_toArray, List.length_cons, List.length_nil, Nat.reduceAdd, Nat.reduceSub, Array.replicate_succ, Array.replicate_zero, List.push_toArray, List.append_toArray, List.nil_append, List.cons_append]
 gi_wp2
 go_ret
 exact ⟨rfl, rfl⟩
attribute [local go_sem] Oper.semAt_some
theorem ownFrom_turns {β : Type} {B : Nat} {I : β → World → Prop} (h : ∀ s V V', I s V → Turns (fun k => B ≤ k) V V' → I s V') : OwnFrom B I :=
 fun s V V' row hs hg hr => h s V V' hs ((Turns.refl _ _).grown hg fun k e => (hr k e).1)
theorem keeps_below {B : Nat} {V V' : World} (h : Below V.heap.size V V') : KeepsFrom B V V' :=
 ⟨h.size, fun k o _ hk _ => by rw [h.block k (Array.getElem?_eq_some_iff.1 hk).1]; exact hk⟩
theorem keeps_set (B : Nat) (V : World) (p : Addr) (u : Value) : KeepsFrom B V (V.setCell p u) := (KeepsOthers.setCell _ _ _).from _
structure LoopT (W1 : World) (Bs Bk : Nat) (sa : Option Addr) (n sc : Nat) (ka : Option Addr) (m kc : Nat) (ks : List Int) (ss : List StP) : Prop where
 g1 : W1.cell? ⟨Bs, 0, none⟩ = some (.slice sa n sc)
 g2 : W1.cell? ⟨Bk, 0, none⟩ = some (.slice ka m kc)
 gI : IsI W1 ka kc ks
 gZ : IsZ W1 sa sc ss
 hn : n = ss.length
theorem IsI.kept {P : Nat → Prop} {w w' : World} {a : Option Addr} {c : Nat} {ms : List Int} (h : IsI w a c ms) (t : Turns P w w') (hp : 0 < ms.length → ∀ x, a = some x → ¬ P x.block) : IsI w' a c ms := by
 refine ⟨h.1, h.2.1, fun j x hx => ?_⟩
 obtain ⟨b, o, ha, hlt, hc⟩ := h.2.2 j x hx
 have h0 : 0 < ms.length := Nat.lt_of_le_of_lt (Nat.zero_le _) (List.getElem?_eq_some_iff.1 hx).1
 exact ⟨b, o, ha, Nat.lt_of_lt_of_le hlt t.size, t.cell (p := ⟨b, o + j, none⟩) (hp h0 ⟨b, o, none⟩ ha) hc⟩
theorem IsZ.kept {P : Nat → Prop} {w w' : World} {a : Option Addr} {c : Nat} {ss : List StP} (h : IsZ w a c ss) (t : Turns P w w') (hp : 0 < ss.length → ∀ x, a = Option.some x → ¬ P x.block) : IsZ w' a c ss := by
 by_cases h0 : 0 < ss.length
 ·
  exact h.turns t (hp h0)
 ·
  obtain rfl : ss = [] := List.length_eq_zero_iff.1 (by omega)
  exact isZ_nil _ _ _ h.2.1
theorem LoopT.good {P : Nat → Prop} {W1 V : World} {Bs Bk : Nat} {sa : Option Addr} {n sc : Nat} {ka : Option Addr} {m kc : Nat} {ks : List Int} {ss : List StP} (h : LoopT W1 Bs Bk sa n sc ka m kc ks ss) (t : Turns P W1 V)
  (h1 : ¬ P Bs) (h2 : ¬ P Bk) (h3 : 0 < ks.length → ∀ x, ka = some x → ¬ P x.block) (h4 : 0 < ss.length → ∀ x, sa = some x → ¬ P x.block) (pre : List (Nat × StP)) : GoodT Bs Bk sa n sc ka m kc ks ss pre V :=
 ⟨t.cell (p := ⟨Bs, 0, none⟩) h1 h.g1, t.cell (p := ⟨Bk, 0, none⟩) h2 h.g2, h.gI.kept t h3, ss, h.gZ.kept t h4, h.hn.symm, fun _ _ => rfl⟩
theorem IsI.lies {w : World} {a : Option Addr} {c : Nat} {ms : List Int} (h : IsI w a c ms) (h0 : 0 < ms.length) : ∀ x, a = some x → x.block < w.heap.size := by
 obtain ⟨b, o, rfl, hl, _⟩ := h.2.2 0 ms[0] (List.getElem?_eq_getElem h0)
 intro x hx; cases hx; exact hl
theorem IsZ.lies {w : World} {a : Option Addr} {c : Nat} {ss : List StP} (h : IsZ w a c ss) (h0 : 0 < ss.length) : ∀ x, a = Option.some x → x.block < w.heap.size := by
 obtain ⟨b, o, rfl, hl⟩ := h.some h0
 intro x hx; cases hx; exact hl
def cntK (ks : List Int) (ss : List StP) : Nat := (candL ks ss).length
theorem cand_le (ks : List Int) (ss : List StP) : (candL ks ss).length ≤ ss.length := by
 unfold candL candTo
 rw [List.length_map]
 exact Nat.le_trans (List.length_filter_le _ _) (by simp)
set_option maxRecDepth 100000 in
set_option maxHeartbeats 2000000 in
theorem count_any (sa : Option Addr) (n sc : Nat) (ka : Option Addr) (m kc : Nat) (ks : List Int) (ss : List StP) (w : World) (hZ : IsZ w sa sc ss) (hn : n = ss.length) (hI : IsI w ka kc ks) (hm : m = ks.length) :
  Calls Try.prog 70 #[.slice sa n sc, .slice ka m kc] w fun e w' => e = .returned (.int .i64 (cntK ks ss)) ∧ Below w.heap.size w w' := by
 obtain ⟨W1, hW1⟩ : ∃ W1, W1 = ((w.alloc (.cells #[.int .i64 0] 3)).alloc (.cells #[.slice sa n sc] 25)).alloc (.cells #[.slice ka m kc] 48) := ⟨_, rfl⟩
 have hB1 : Below w.heap.size w W1 := by rw [hW1]; exact (((Below.refl _ _).alloc (Nat.le_refl _) _).alloc (by simp) _).alloc (by simp; omega) _
 have hs1 : W1.heap.size = w.heap.size + 3 := by rw [hW1]; simp
 have bc : BoxL W1 w.heap.size [.int .i64 0] := by rw [hW1]; exact ((boxL_new w [.int .i64 0] _ rfl).alloc _).alloc _
 have L : LoopT W1 (w.heap.size + 1) (w.heap.size + 1 + 1) sa n sc ka m kc ks ss := by
  refine ⟨?_, ?_, hI.below hB1, hZ.below hB1, hn⟩
  ·
   rw [hW1]; exact cell_alloc (World.cell?_alloc_at _ _ _ _ (by simp)) _
  ·
   rw [hW1]; exact World.cell?_alloc_at _ _ _ _ (by simp)
 have hH := those1_hands (3 - 1) (by omega) (w.heap.size + 1) (w.heap.size + 1 + 1) sa n sc ka m kc ks ss hn hm W1
 have hle := cand_le ks ss
 have hnm : n ≤ 9223372036854775807 := by rw [hn]; exact hZ.size
 have hka : 0 < ks.length → ∀ x, ka = some x → ¬ (x.block = w.heap.size ∨ W1.heap.size ≤ x.block) := fun h0 x hx => by have := hI.lies h0 x hx; omega
 have hsa : 0 < ss.length → ∀ x, sa = some x → ¬ (x.block = w.heap.size ∨ W1.heap.size ≤ x.block) := fun h0 x hx => by have := hZ.lies h0 x hx; omega
 have HN : Hid (n = ss.length) := hn
 clear hZ hI hn hm
 refine (callsIn_wide (n := 3)).1 ?_
 refine callsIn_of_wp_marks Try.func70 rfl trivial ?_ rfl
 simp only [Try.ntmps70, List.size_toArray, List.length_cons, List.length_nil, Nat.reduceAdd, Nat.reduceSub, Array.replicate_succ, Array.replicate_zero, List.push_toArray, List.append_toArray, List.nil_append, List.cons_append]
 gi_wp2_with (refine ⟨trivial, ?_⟩; gi_at_call 50; refine (thoseR_any _ _ _ _ _ _ _ _).mono ?_; rintro e w2 ⟨rfl, rfl⟩)
 rw [← hW1]
 clear hW1
 refine range_known rfl (enters_of Try.func84 (by kernel_rfl) rfl) hH (fun _ => rfl)
  (fun pre V => Turns (fun k => k = w.heap.size ∨ W1.heap.size ≤ k) W1 V ∧ BoxL V w.heap.size [.int .i64 (pre.length : Nat)])
  (fun _ _ _ => False)
  (ownFrom_turns fun s V V' h t => ⟨h.1.trans (t.mono fun k hk => .inr hk), boxL_turns h.2 t (by omega)⟩)
  (fun _ _ _ _ _ h _ _ => h)
  (fun pre V h => L.good h.1 (by omega) (by omega) hka hsa pre)
  ⟨Turns.refl _ _, bc⟩
  (fun x a' V => a' = { tmps := #[.slice sa n sc, .slice ka m kc, undef, undef, .int .i64 0, .pointer (some ⟨w.heap.size, 0, none⟩), .slice sa n sc, .slice ka m kc, .func (.func 84) #[] #[.pointer (some ⟨w.heap.size + 1, 0, none⟩), .pointer (some ⟨w.heap.size + 1 + 1, 0, none⟩)], .int .i64 x.1, .agg #[.int .i64 x.2.i, .int .i64 x.2.t, .int .i64 x.2.d, .int .i64 x.2.k, .string x.2.r], undef, undef, undef], defers := [] })
  (fun x a' s V V' row hs hg hr => hs) ?assign ?body ?done ?stop
 case assign =>
  rintro l pre x V K hi hpre hK
  dsimp only [encZ]
  gi_wp2
  exact hK _ _ (KeepsFrom.refl _ _) hi (by simp)
 case body =>
  rintro l pre x a' V ⟨t, b⟩ rfl hpre
  have hlen : pre.length + 1 ≤ n := by have := hpre.length_le; rw [List.length_append] at this; have := HN.out; simp at *; omega
  have b0 := b.1 0 _ rfl
  have f0 := b.2 0 (by simp)
  have b9 := b.set 0 (.int .i64 ((pre ++ [x]).length : Nat))
  clear b
  gi_wp2
  refine ⟨keeps_set _ _ _ _, trivial, t.setCell (p := ⟨w.heap.size, 0, none⟩) (.inl rfl) _, ?_⟩
  simpa using b9
 case done =>
  rintro D V hD ⟨t, b⟩ hK
  have b0 := b.1 0 _ rfl
  gi_wp2
  refine ⟨by simp, .inl ⟨_, _, rfl, run_takeDeferred hK, ?_⟩⟩
  refine ⟨_, results_tmp rfl _ _ _, rfl, ?_⟩
  exact (Below.turns hB1 t (by intro i hi; omega)).trans (belowK_b (w := w) (Nat.le_refl _) V D _ _ (by have := t.size; omega) hK rfl rfl)
 case stop =>
  rintro D c pre V _ _ h _
  exact h.elim
end Go.Proofs.Ytdpljpjbomhccaa
namespace Go.Proofs.Ytdpljpjbomhccaa
open Go.RowKit Plain
set_option linter.unusedVariables false
theorem hasTo_next {ss : List StP} {j : Nat} {s : StP} {k : Int} (h : ss[j]? = some s) (h0 : hasK (ss.take j) k = false) (hne : ¬ s.i = k) : hasK (ss.take (j + 1)) k = false := by
 unfold hasK at *
 rw [List.take_add_one, h, List.any_append, h0]
 simpa using hne
set_option maxRecDepth 20000 in
set_option maxHeartbeats 1000000 in
theorem refHas_any (ky nm : ByteArray) (ta : Option Addr) (tn tc : Nat) (is : Int) (sa : Option Addr) (n sc : Nat) (ss : List StP) (k : Int) (w : World) (hZ : IsZ w sa sc ss) (hn : n = ss.length) :
  Calls Try.prog 27 #[.agg #[.string ky, .string nm, .slice ta tn tc, .int .i64 is, .slice sa n sc], .int .i64 k] w fun e w' => e = .returned (.bool (hasK ss k)) ∧ Below w.heap.size w w' := by
 have HN : Hid (n = ss.length) := hn
 have hnm : n ≤ 9223372036854775807 := by rw [hn]; exact hZ.size
 have hnc : n ≤ sc := by rw [hn]; exact hZ.1
 have hcm : sc ≤ 9223372036854775807 := hZ.2.1
 have HZ : Hid (IsZ w sa sc ss) := hZ
 have hB : Below w.heap.size w (w.alloc (.cells #[.string ky, .string nm, .slice ta tn tc, .int .i64 is, .slice sa n sc] 27)) := (Below.refl _ _).alloc (Nat.le_refl _) _
 have h00 : Hid (hasK (ss.take 0) k = false) := rfl
 clear hn hZ
 go_enter Try.func27, Try.ntmps27
 go_wp2
 go_loopw [10] (fun v wr => ∃ j : Nat, j ≤ n ∧ v = .int .i64 j ∧ Hid (hasK (ss.take j) k = false) ∧ Below w.heap.size w wr) (fun v _ => n - (intOf v).toNat)
 case atStart => exact ⟨0, by omega, rfl, h00, hB⟩
 case round =>
  clear h00 hB
  obtain ⟨j, hj, rfl, hh, hB⟩ := hrel
  by_cases hlt : j < n
  ·
   have hlt' : (j : Int) < n := by omega
   obtain ⟨x, hx⟩ : ∃ x, ss[j]? = some x := ⟨_, List.getElem?_eq_getElem (by rw [← HN.out]; exact hlt)⟩
   obtain ⟨b, o, rfl, hbl⟩ := HZ.out.some (by rw [← HN.out]; omega)
   obtain ⟨z0, z1, z2, z3, z4⟩ := (HZ.out.below hB).at hx
   have hB2 : Below w.heap.size w (wr.alloc (.cells #[.int .i64 x.i, .int .i64 x.t, .int .i64 x.d, .int .i64 x.k, .string x.r] 52)) := hB.alloc hB.size _
   clear hbl
   by_cases hk : x.i = k
   ·
    have hk' : (x.i == k) = true := by simpa using hk
    have hT : Hid (hasK ss k = true) := (hasK_iff ss k).2 ⟨j, x, hx, hk⟩
    clear hk hx
    obtain ⟨xi, xt, xd, xk, xr⟩ := x
    go_wp2
    go_ret
    exact ⟨ret_bool hT.out.symm, hB2⟩
   ·
    have hk' : (x.i == k) = false := by simpa using hk
    have hT : Hid (hasK (ss.take (j + 1)) k = false) := hasTo_next hx hh.out hk
    clear hk hx
    obtain ⟨xi, xt, xd, xk, xr⟩ := x
    go_wp2
    go_roundw
    case rel => exact ⟨j + 1, by omega, by go_num, hT, hB2⟩
    case measure => simp [intOf]; omega
  ·
   obtain rfl : n = j := by omega
   have hT : Hid (hasK ss k = false) := by show _ = _; have := hh.out; rw [HN.out, List.take_length] at this; exact this
   have hlt' : ¬ (n : Int) < n := by omega
   go_wp2
   go_ret
   exact ⟨ret_bool hT.out.symm, hB⟩
theorem boxesR (w : World) (ys : List Value) (t2 : TypeId) {w1 : World} (hb : Below (w.alloc (.cells ys.toArray t2)).heap.size (w.alloc (.cells ys.toArray t2)) w1) :
  BoxL w1 w.heap.size ys ∧ Below w.heap.size w w1 :=
 ⟨(boxL_new w ys t2 rfl).below hb, Below.tr ((Below.refl w.heap.size w).alloc (Nat.le_refl _) _) hb⟩
set_option maxRecDepth 20000 in
set_option maxHeartbeats 1000000 in
theorem refOpen_any (ky nm : ByteArray) (ta : Option Addr) (tn tc : Nat) (is : Int) (sa : Option Addr) (n sc : Nat) (ss : List StP) (w : World) (hZ : IsZ w sa sc ss) (hn : n = ss.length) :
  Calls Try.prog 81 #[.agg #[.string ky, .string nm, .slice ta tn tc, .int .i64 is, .slice sa n sc]] w fun e w' => e = .returned (.bool (openS ss)) ∧ Below w.heap.size w w' := by
 have c0 := fun W (h : Below w.heap.size w W) => refHas_any ky nm ta tn tc is sa n sc ss 0 W (hZ.below h) hn
 have c1 := fun W (h : Below w.heap.size w W) => refHas_any ky nm ta tn tc is sa n sc ss 1 W (hZ.below h) hn
 have c2 := fun W (h : Below w.heap.size w W) => refHas_any ky nm ta tn tc is sa n sc ss 2 W (hZ.below h) hn
 have E : Hid (openS ss = (hasK ss 0 || hasK ss 1 || hasK ss 2)) := rfl
 have hB0 : Below w.heap.size w (w.alloc (.cells #[.string ky, .string nm, .slice ta tn tc, .int .i64 is, .slice sa n sc] 27)) := (Below.refl _ _).alloc (Nat.le_refl _) _
 generalize hasK ss 0 = b0 at *
 generalize hasK ss 1 = b1 at *
 generalize hasK ss 2 = b2 at *
 clear hZ hn
 have t1 := trivial
 have t2 := trivial
 cases b0
 ·
  cases b1
  ·
   skip
   go_enter Try.func81, Try.ntmps81
   go_wp2_with (first
    | (have _t := t1; go_at_call 27; refine (c0 _ hB0).mono ?_; clear t1 _t; rintro e w1 ⟨rfl, hb⟩; obtain ⟨br, hB⟩ := boxesR w [.string ky, .string nm, .slice ta tn tc, .int .i64 is, .slice sa n sc] _ hb; have q0 := br.1 0 _ rfl; have q1 := br.1 1 _ rfl; have q2 := br.1 2 _ rfl; have q3 := br.1 3 _ rfl; have q4 := br.1 4 _ rfl; clear hb)
    | (have _t := t2; go_at_call 27; refine (c1 _ hB).mono ?_; clear t2 _t; rintro e w2 ⟨rfl, hb⟩; replace br := br.below hb; replace hB := Below.tr hB hb; clear hb q0 q1 q2 q3 q4; have q0 := br.1 0 _ rfl; have q1 := br.1 1 _ rfl; have q2 := br.1 2 _ rfl; have q3 := br.1 3 _ rfl; have q4 := br.1 4 _ rfl)
    | (go_at_call 27; refine (c2 _ hB).mono ?_; rintro e w3 ⟨rfl, hb⟩; replace hB := Below.tr hB hb))
   go_ret
   exact ⟨ret_bool (by rw [E.out]; rfl), hB⟩
  ·
   skip
   go_enter Try.func81, Try.ntmps81
   go_wp2_with (first
    | (have _t := t1; go_at_call 27; refine (c0 _ hB0).mono ?_; clear t1 _t; rintro e w1 ⟨rfl, hb⟩; obtain ⟨br, hB⟩ := boxesR w [.string ky, .string nm, .slice ta tn tc, .int .i64 is, .slice sa n sc] _ hb; have q0 := br.1 0 _ rfl; have q1 := br.1 1 _ rfl; have q2 := br.1 2 _ rfl; have q3 := br.1 3 _ rfl; have q4 := br.1 4 _ rfl; clear hb)
    | (have _t := t2; go_at_call 27; refine (c1 _ hB).mono ?_; clear t2 _t; rintro e w2 ⟨rfl, hb⟩; replace br := br.below hb; replace hB := Below.tr hB hb; clear hb q0 q1 q2 q3 q4; have q0 := br.1 0 _ rfl; have q1 := br.1 1 _ rfl; have q2 := br.1 2 _ rfl; have q3 := br.1 3 _ rfl; have q4 := br.1 4 _ rfl)
    | (go_at_call 27; refine (c2 _ hB).mono ?_; rintro e w3 ⟨rfl, hb⟩; replace hB := Below.tr hB hb))
   go_ret
   exact ⟨ret_bool (by rw [E.out]; rfl), hB⟩
 ·
  skip
  go_enter Try.func81, Try.ntmps81
  go_wp2_with (first
   | (have _t := t1; go_at_call 27; refine (c0 _ hB0).mono ?_; clear t1 _t; rintro e w1 ⟨rfl, hb⟩; obtain ⟨br, hB⟩ := boxesR w [.string ky, .string nm, .slice ta tn tc, .int .i64 is, .slice sa n sc] _ hb; have q0 := br.1 0 _ rfl; have q1 := br.1 1 _ rfl; have q2 := br.1 2 _ rfl; have q3 := br.1 3 _ rfl; have q4 := br.1 4 _ rfl; clear hb)
   | (have _t := t2; go_at_call 27; refine (c1 _ hB).mono ?_; clear t2 _t; rintro e w2 ⟨rfl, hb⟩; replace br := br.below hb; replace hB := Below.tr hB hb; clear hb q0 q1 q2 q3 q4; have q0 := br.1 0 _ rfl; have q1 := br.1 1 _ rfl; have q2 := br.1 2 _ rfl; have q3 := br.1 3 _ rfl; have q4 := br.1 4 _ rfl)
   | (go_at_call 27; refine (c2 _ hB).mono ?_; rintro e w3 ⟨rfl, hb⟩; replace hB := Below.tr hB hb))
  go_ret
  exact ⟨ret_bool (by rw [E.out]; rfl), hB⟩
theorem readyTo_next {ts : List TaskP} {ss : List StP} {ns : List Int} {j : Nat} {x : Int} (h : ns[j]? = some x) (h0 : (ns.take j).all (fun x => decide (isAt ss x.toNat = 3)) = true) (h3 : isAt ss x.toNat = 3) : (ns.take (j + 1)).all (fun x => decide (isAt ss x.toNat = 3)) = true := by
 rw [List.take_add_one, h, List.all_append, h0]
 simpa using h3
set_option maxRecDepth 20000 in
set_option maxHeartbeats 2000000 in
theorem refIsReady_any (ky nm : ByteArray) (ta : Option Addr) (tn tc : Nat) (is : Int) (sa : Option Addr) (n sc : Nat) (ss : List StP) (tv : List TaskV) (i : Nat) (t : TaskV) (w : World) (hZ : IsZ w sa sc ss) (hn : n = ss.length) (hT : IsT w ta tc tv) (htn : tn = tv.length) (ht : tv[i]? = some t)
  (hin : ∀ x ∈ t.ns, 0 ≤ x ∧ x < n) :
  Calls Try.prog 41 #[.agg #[.string ky, .string nm, .slice ta tn tc, .int .i64 is, .slice sa n sc], .int .i64 i] w fun e w' => e = .returned (.bool (readyI (plainT tv) ss i)) ∧ Below w.heap.size w w' := by
 have hB : Below w.heap.size w (w.alloc (.cells #[.string ky, .string nm, .slice ta tn tc, .int .i64 is, .slice sa n sc] 27)) := (Below.refl _ _).alloc (Nat.le_refl _) _
 have hi : i < tn := by rw [htn]; exact (List.getElem?_eq_some_iff.1 ht).1
 have hi' : (i : Int) < tn := by omega
 have htc : tn ≤ tc := by rw [htn]; exact hT.1
 have htm : tc ≤ 9223372036854775807 := hT.2.1
 have hnc : n ≤ sc := by rw [hn]; exact hZ.1
 have hcm : sc ≤ 9223372036854775807 := hZ.2.1
 obtain ⟨tb, to, rfl, -⟩ := hT.some (by rw [← htn]; omega)
 obtain ⟨y0, -, -, -, hI⟩ := hT.at ht
 obtain ⟨W, hW⟩ : ∃ W, W = w.alloc (.cells #[.string ky, .string nm, .slice (some ⟨tb, to, none⟩) tn tc, .int .i64 is, .slice sa n sc] 27) := ⟨_, rfl⟩
 have E : Hid (readyI (plainT tv) ss i = t.ns.all fun x => decide (isAt ss x.toNat = 3)) := by show _ = _; unfold readyI; rw [needsAt_get ht]
 have HZ : Hid (IsZ w sa sc ss) := hZ
 have HI : Hid (IsI w t.a t.c t.ns) := hI
 have HN : Hid (n = ss.length) := hn
 have HIN : Hid (∀ x ∈ t.ns, 0 ≤ x ∧ x < n) := hin
 have y1 := cell_below hB y0
 clear hZ hT htn ht hn hin hI hW
 generalize readyI (plainT tv) ss i = F at *
 obtain ⟨aa, ac, ns, tr, wt, le⟩ := t
 obtain ⟨m, hm⟩ : ∃ m, m = ns.length := ⟨_, rfl⟩
 have HM : Hid (m = ns.length) := hm
 have hmc : m ≤ ac := by rw [hm]; exact HI.out.1
 have hmm : ac ≤ 9223372036854775807 := HI.out.2.1
 replace y1 : (w.alloc (.cells #[.string ky, .string nm, .slice (some ⟨tb, to, none⟩) tn tc, .int .i64 is, .slice sa n sc] 27)).cell? ⟨tb, to + i * 4, none⟩ = some (.slice aa m ac) := by rw [hm]; exact y1
 clear y0 hm
 go_enter Try.func41, Try.ntmps41
 go_wp2
 go_loopw [15] (fun v wr => ∃ j : Nat, j ≤ m ∧ v = .int .i64 j ∧ Hid ((ns.take j).all (fun x => decide (isAt ss x.toNat = 3)) = true) ∧ BoxL wr w.heap.size [.string ky, .string nm, .slice (some ⟨tb, to, none⟩) tn tc, .int .i64 is, .slice sa n sc] ∧ Below w.heap.size w wr) (fun v _ => m - (intOf v).toNat)
 case atStart => exact ⟨0, by omega, rfl, rfl, boxL_new w [.string ky, .string nm, .slice (some ⟨tb, to, none⟩) tn tc, .int .i64 is, .slice sa n sc] 27 rfl, hB⟩
 case round =>
  clear hB y1
  obtain ⟨j, hj, rfl, hh, br, hB⟩ := hrel
  have q3 := br.1 3 _ rfl
  have q4 := br.1 4 _ rfl
  by_cases hlt : j < m
  ·
   have hlt' : (j : Int) < m := by omega
   obtain ⟨x, hx⟩ : ∃ x, ns[j]? = some x := ⟨_, List.getElem?_eq_getElem (by rw [← HM.out]; exact hlt)⟩
   obtain ⟨hx0, hx1⟩ := HIN.out x (List.mem_of_getElem? hx)
   obtain ⟨b, o, rfl, -, hc⟩ := HI.out.2.2 j x hx
   have c1 := cell_below hB hc
   obtain ⟨xn, rfl⟩ : ∃ xn : Nat, x = xn := ⟨x.toNat, by omega⟩
   have hxn : xn < n := by omega
   obtain ⟨s, hs⟩ : ∃ s, ss[xn]? = some s := ⟨_, List.getElem?_eq_getElem (by rw [← HN.out]; exact hxn)⟩
   obtain ⟨sb, so, rfl, -⟩ := HZ.out.some (by rw [← HN.out]; omega)
   obtain ⟨z0, -, -, -, -⟩ := (HZ.out.below hB).at hs
   have hat : isAt ss xn = s.i := isAt_some hs
   clear hc hs
   obtain ⟨si, st, sd, sk, sr⟩ := s
   by_cases h3 : si = 3
   ·
    subst h3
    have hT : Hid ((ns.take (j + 1)).all (fun x => decide (isAt ss x.toNat = 3)) = true) := readyTo_next (ts := []) hx hh.out hat
    clear hat hx
    go_wp2
    go_roundw
    case rel => exact ⟨j + 1, by omega, by go_num, hT, br, hB⟩
    case measure => simp [intOf]; omega
   ·
    have h3' : (si != 3) = true := by simpa using h3
    have hT : Hid (F = false) := by
     show _ = _
     rw [E.out, List.all_eq_false]
     exact ⟨_, List.mem_of_getElem? hx, by simpa [hat] using h3⟩
    clear hat hx h3
    go_wp2
    go_ret
    exact ⟨ret_bool hT.out.symm, hB⟩
  ·
   obtain rfl : m = j := by omega
   have hT : Hid (F = true) := by show _ = _; have := hh.out; rw [HM.out, List.take_length] at this; rw [E.out]; exact this
   have hlt' : ¬ (m : Int) < m := by omega
   go_wp2
   go_ret
   exact ⟨ret_bool hT.out.symm, hB⟩
theorem inTime_any (t : Int) (w : World) :
  Calls Try.prog 96 #[.int .i64 t] w fun e w' => e = .returned (.int .i64 (min (max t 0) 1099511627776)) ∧ w = w' := by
 obtain ⟨m, hm⟩ : ∃ m, m = max t 0 := ⟨_, rfl⟩
 obtain ⟨n, hn⟩ : ∃ n, n = min m 1099511627776 := ⟨_, rfl⟩
 have h1 := max_run hm.symm
 have h2 := min_run hn.symm
 rw [← hm, ← hn]
 clear hm hn
 go_enter Try.func96, Try.ntmps96
 go_wp2
 go_ret
 exact ⟨rfl, rfl⟩
theorem waitAfter_any (x n : Int) (w : World) (hn : n ≤ 9223372036854775807) :
  Calls Try.prog 89 #[.int .i64 x, .int .i64 n] w fun e w' => e = .returned (.int .i64 (afterF x n)) ∧ w = w' := by
 by_cases h0 : x < 1
 ·
  have e : Hid (afterF x n = 0) := afterF_none (w := x) (n := n) (.inl h0)
  go_enter Try.func89, Try.ntmps89
  go_wp2
  go_ret
  exact ⟨ret_int e.out.symm, rfl⟩
 by_cases h1 : n < 1
 ·
  have e : Hid (afterF x n = 0) := afterF_none (w := x) (n := n) (.inr h1)
  go_enter Try.func89, Try.ntmps89
  go_wp2
  go_ret
  exact ⟨ret_int e.out.symm, rfl⟩
 have e := afterF_some (w := x) (n := n) (by omega) (by omega)
 have hm := min_run (aftK_zero x).symm
 have E : Hid (afterF x n = aftK x (n - 1).toNat) := e
 clear e
 go_enter Try.func89, Try.ntmps89
 go_wp2
 go_loop [5, 6] (fun p v => ∃ k : Nat, (k : Int) + 1 ≤ n ∧ v = .int .i64 ((k : Int) + 1) ∧ p = .int .i64 (aftK x k)) (fun _ v => (n - intOf v).toNat)
 case atStart => exact ⟨0, by omega, rfl, rfl⟩
 case round =>
  clear hm
  obtain ⟨k, hk, rfl, rfl⟩ := hrel
  have h2 := aftK_pos (w := x) (by omega) k
  have h3 := aftK_le x k
  by_cases hlt : (k : Int) + 1 < n
  ·
   by_cases hb : aftK x k < 1048576
   ·
    have hm := min_run (aftK_succ x k).symm
    go_wp2
    go_round
    case rel => exact ⟨k + 1, by omega, by go_num, rfl⟩
    case measure => simp [intOf]; omega
   ·
    go_wp2
    go_ret
    refine ⟨ret_int ?_, rfl⟩
    rw [E.out, aftK_stuck (w := x) (j := k) (k := (n - 1).toNat) (by omega) (by omega)]
    omega
  ·
   go_wp2
   go_ret
   refine ⟨ret_int ?_, rfl⟩
   rw [E.out, show (n - 1).toNat = k by omega]
set_option maxRecDepth 20000 in
theorem waitUntil_any (now : Int) (a : Option Addr) (c n : Nat) (ps : List Int) (w : World) (hI : IsI w a c ps) (hn : n = ps.length) :
  Calls Try.prog 79 #[.int .i64 now, .slice a n c] w fun e w' => e = .returned (.int .i64 (untF now ps)) ∧ w = w' := by
 have HN : Hid (n = ps.length) := hn
 have hnm : n ≤ 9223372036854775807 := by rw [hn]; exact Nat.le_trans hI.1 hI.2.1
 have E0 : Hid (untF now [] = min (max now 0) 1099511627776) := untF_nil now
 clear hn
 go_enter Try.func79, Try.ntmps79
 go_wp2_with (go_at_call 96; refine (inTime_any _ _).mono ?_; rintro e w' ⟨rfl, rfl⟩)
 go_loop [5, 12] (fun p v => ∃ k : Nat, k ≤ n ∧ v = .int .i64 k ∧ p = .int .i64 (untF now (ps.take k))) (fun _ v => n - (intOf v).toNat)
 case atStart => exact ⟨0, by omega, rfl, by rw [List.take_zero, E0.out]⟩
 case round =>
  obtain ⟨k, hk, rfl, rfl⟩ := hrel
  by_cases hlt : k < n
  ·
   have hlt' : (k : Int) < n := by omega
   obtain ⟨x, hx⟩ : ∃ x, ps[k]? = some x := ⟨_, List.getElem?_eq_getElem (by rw [← HN.out]; exact hlt)⟩
   obtain ⟨b, o, rfl, -, hc⟩ := hI.2.2 k x hx
   have E1 := untF_take now hx
   have hb := untF_bound now (ps.take k)
   obtain ⟨y, hy⟩ : ∃ y, y = min (max x 0) 1099511627776 := ⟨_, rfl⟩
   rw [← hy] at E1
   have HE : Hid (untF now (ps.take (k + 1)) = min (max (untF now (ps.take k) + y) 0) 1099511627776) := E1
   have hyb : 0 ≤ y ∧ y ≤ 1099511627776 := by omega
   have cT : ∀ W, Calls Try.prog 96 #[.int .i64 x] W fun e w' => e = .returned (.int .i64 y) ∧ W = w' := fun W => (inTime_any x W).mono (by rintro e w' ⟨rfl, h⟩; exact ⟨by rw [hy], h⟩)
   clear E1 hy hx
   have tok := trivial
   go_wp2_with (first
    | (have _t := tok; go_at_call 96; refine (cT _).mono ?_; clear tok _t; rintro e w' ⟨rfl, rfl⟩)
    | (go_at_call 96; refine (inTime_any _ _).mono ?_; rintro e w' ⟨rfl, rfl⟩))
   go_round
   case rel => exact ⟨k + 1, by omega, by go_num, by rw [HE.out]⟩
   case measure => simp [intOf]; omega
  ·
   obtain rfl : k = n := by omega
   go_wp2
   go_ret
   exact ⟨ret_int (by rw [HN.out, List.take_length]), rfl⟩
theorem boxes2 (w : World) (xs ys : List Value) (t1 t2 : TypeId) (h0 : 0 < xs.length) (h1 : 0 < ys.length) {w1 : World} (hb : Below ((w.alloc (.cells xs.toArray t1)).alloc (.cells ys.toArray t2)).heap.size ((w.alloc (.cells xs.toArray t1)).alloc (.cells ys.toArray t2)) w1) :
  BoxL w1 w.heap.size xs ∧ BoxL w1 (w.heap.size + 1) ys ∧ Below w.heap.size w w1 := by
 refine ⟨((boxL_new w xs t1 rfl).alloc _).below hb, (boxL_new _ ys t2 (by simp)).below hb, ?_⟩
 exact Below.tr (((Below.refl w.heap.size w).alloc (Nat.le_refl _) _).alloc (by simp) _) hb
theorem bel2 (w : World) (a b : Obj) : Below w.heap.size w ((w.alloc a).alloc b) := ((Below.refl _ _).alloc (Nat.le_refl _) _).alloc (by simp) _
theorem bel3 (w : World) (a b c : Obj) : Below w.heap.size w (((w.alloc a).alloc b).alloc c) := (bel2 w a b).alloc (by simp; omega) _
theorem bel4 (w : World) (a b c d : Obj) : Below w.heap.size w ((((w.alloc a).alloc b).alloc c).alloc d) := (bel3 w a b c).alloc (by simp; omega) _
theorem empN_iff {k : ByteArray} : k.toList.isEmpty = true ↔ k = ⟨#[]⟩ := by
 rw [ByteArray.toList_eq, List.isEmpty_iff]
 constructor
 ·
  intro h; apply bytes_ext; rw [h]
 ·
  rintro rfl; rfl
theorem empT_true {k : ByteArray} (h : k = ⟨#[]⟩) : k.toList.isEmpty = true := empN_iff.2 h
theorem empT_false {k : ByteArray} (h : ¬ k = ⟨#[]⟩) : k.toList.isEmpty = false := by
 rw [Bool.eq_false_iff]; exact fun hh => h (empN_iff.1 hh)
def timeB (t : Int) : Bool := decide (0 ≤ t ∧ t ≤ 1099511627776)
def tokB (t : Int) : Bool := decide (1 ≤ t ∧ t ≤ 1099511627776)
theorem isTimeT_any (t : Int) (w : World) :
  Calls Try.prog 97 #[.int .i64 t] w fun e w' => e = .returned (.bool (timeB t)) ∧ w = w' := by
 by_cases h : 0 ≤ t
 ·
  by_cases h' : t ≤ 1099511627776
  ·
   have e : Hid (timeB t = true) := decide_eq_true ⟨h, h'⟩
   go_enter Try.func97, Try.ntmps97
   go_wp2
   go_ret
   exact ⟨ret_bool e.out.symm, rfl⟩
  ·
   have e : Hid (timeB t = false) := decide_eq_false (fun x => h' x.2)
   go_enter Try.func97, Try.ntmps97
   go_wp2
   go_ret
   exact ⟨ret_bool e.out.symm, rfl⟩
 ·
  have e : Hid (timeB t = false) := decide_eq_false (fun x => h x.1)
  go_enter Try.func97, Try.ntmps97
  go_wp2
  go_ret
  exact ⟨ret_bool e.out.symm, rfl⟩
theorem isTokenT_any (t : Int) (w : World) :
  Calls Try.prog 86 #[.int .i64 t] w fun e w' => e = .returned (.bool (tokB t)) ∧ w = w' := by
 by_cases h : 1 ≤ t
 ·
  by_cases h' : t ≤ 1099511627776
  ·
   have e : Hid (tokB t = true) := decide_eq_true ⟨h, h'⟩
   go_enter Try.func86, Try.ntmps86
   go_wp2
   go_ret
   exact ⟨ret_bool e.out.symm, rfl⟩
  ·
   have e : Hid (tokB t = false) := decide_eq_false (fun x => h' x.2)
   go_enter Try.func86, Try.ntmps86
   go_wp2
   go_ret
   exact ⟨ret_bool e.out.symm, rfl⟩
 ·
  have e : Hid (tokB t = false) := decide_eq_false (fun x => h x.1)
  go_enter Try.func86, Try.ntmps86
  go_wp2
  go_ret
  exact ⟨ret_bool e.out.symm, rfl⟩
theorem untN_any (now : Int) (w : World) :
  Calls Try.prog 79 #[.int .i64 now, .slice none 0 0] w fun e w' => e = .returned (.int .i64 (untF now [])) ∧ w = w' :=
 waitUntil_any now none 0 0 [] w (isI_nil w) rfl
set_option maxHeartbeats 1000000 in
theorem isOverT_any (i t d k : Int) (r : ByteArray) (now : Int) (w : World) :
  Calls Try.prog 80 #[.agg #[.int .i64 i, .int .i64 t, .int .i64 d, .int .i64 k, .string r], .int .i64 now] w fun e w' => e = .returned (.bool (decide (d ≤ untF now []))) ∧ w' = (w.alloc (.cells #[.int .i64 i, .int .i64 t, .int .i64 d, .int .i64 k, .string r] 52)).drew := by
 have c1 := untN_any now
 generalize untF now [] = u at *
 obtain ⟨W, hW⟩ : ∃ W, W = w.alloc (.cells #[.int .i64 i, .int .i64 t, .int .i64 d, .int .i64 k, .string r] 52) := ⟨_, rfl⟩
 have q2 : W.cell? ⟨w.heap.size, 2, none⟩ = some (.int .i64 d) := by rw [hW]; exact World.cell?_alloc_at _ _ _ _ rfl
 rw [← hW]
 go_enter Try.func80, Try.ntmps80
 go_wp2
 rw [← hW]
 clear hW
 go_region_held3 (fun V => V.cell? ⟨w.heap.size, 2, none⟩ = some (.int .i64 d)) (exact q2) (first
  | (go_at_call 79; refine (c1 _).mono ?_; rintro e w' ⟨rfl, rfl⟩))
 go_wp2
 go_ret
 exact ⟨rfl, rfl⟩
theorem cnt_zero {ks : List Int} {ss : List StP} : cntK ks ss = 0 ↔ ∀ (i : Nat) s, ss[i]? = some s → ¬ s.i ∈ ks := by
 unfold cntK
 rw [List.length_eq_zero_iff]
 constructor
 ·
  intro h i s hs hk
  have : (i, s) ∈ candL ks ss := by
   unfold candL candTo
   refine List.mem_map.2 ⟨i, List.mem_filter.2 ⟨List.mem_range.2 (List.getElem?_eq_some_iff.1 hs).1, by rw [hs]; simpa using hk⟩, by rw [hs]; rfl⟩
  rw [h] at this
  cases this
 ·
  intro h
  rw [List.eq_nil_iff_forall_not_mem]
  intro x hx
  obtain ⟨h1, h2⟩ := candL_mem hx
  exact h _ _ h1 h2
theorem cnt_none (k : Int) (ss : List StP) : cntK [k] ss = 0 ↔ hasK ss k = false := by
 rw [cnt_zero, Bool.eq_false_iff]
 constructor
 ·
  intro h hh
  obtain ⟨i, s, hs, e⟩ := (hasK_iff ss k).1 hh
  exact h i s hs (by simp [e])
 ·
  intro h i s hs e
  exact h ((hasK_iff ss k).2 ⟨i, s, hs, by simpa using e⟩)
theorem cnt_open (ss : List StP) : cntK [0, 1, 2] ss = 0 ↔ openS ss = false := by
 rw [cnt_zero]
 unfold openS
 rw [Bool.or_eq_false_iff, Bool.or_eq_false_iff]
 constructor
 ·
  intro h
  have no : ∀ k : Int, k ∈ [(0 : Int), 1, 2] → hasK ss k = false := fun k hk => by
   rw [Bool.eq_false_iff]
   intro hh
   obtain ⟨i, s, hs, e⟩ := (hasK_iff ss k).1 hh
   exact h i s hs (by rw [e]; exact hk)
  exact ⟨⟨no 0 (by simp), no 1 (by simp)⟩, no 2 (by simp)⟩
 ·
  rintro ⟨⟨h0, h1⟩, h2⟩ i s hs hk
  have a := hasK_not h0 hs
  have b := hasK_not h1 hs
  have c := hasK_not h2 hs
  simp at hk
  omega
def allS (ss : List StP) : Bool := ss.all fun s => decide (s.i = 3)
theorem allS_iff (ss : List StP) : allS ss = true ↔ ∀ (i : Nat) s, ss[i]? = some s → s.i = 3 := by
 unfold allS
 rw [List.all_eq_true]
 constructor
 ·
  intro h i s hs; simpa using h s (List.mem_of_getElem? hs)
 ·
  intro h s hs
  obtain ⟨i, hi⟩ := List.getElem?_of_mem hs
  simpa using h i s hi
theorem cnt_all (ss : List StP) : cntK [3] ss = ss.length ↔ allS ss = true := by
 rw [allS_iff]
 unfold cntK candL candTo
 rw [List.length_map]
 have e : ∀ l : List Nat, ((l.filter fun j => decide ((ss[j]?.getD zeroT).i ∈ [(3 : Int)])).length = l.length ↔ ∀ j ∈ l, (ss[j]?.getD zeroT).i = 3) := fun l => by
  rw [List.length_filter_eq_length_iff]
  simp
 have := e (List.range ss.length)
 rw [List.length_range] at this
 rw [this]
 constructor
 ·
  intro h i s hs
  have := h i (List.mem_range.2 (List.getElem?_eq_some_iff.1 hs).1)
  rw [hs] at this
  exact this
 ·
  intro h j hj
  have hl := List.mem_range.1 hj
  rw [List.getElem?_eq_getElem hl]
  exact h j _ (List.getElem?_eq_getElem hl)
set_option maxRecDepth 20000 in
set_option maxHeartbeats 1000000 in
theorem areDone_any (sa : Option Addr) (n sc : Nat) (ss : List StP) (w : World) (hZ : IsZ w sa sc ss) (hn : n = ss.length) :
  Calls Try.prog 73 #[.slice sa n sc] w fun e w' => e = .returned (.bool (allS ss)) ∧ Below w.heap.size w w' := by
 have hB0 : Below w.heap.size w (w.alloc (.cells #[.int .i64 3] 3)) := (Below.refl _ _).alloc (Nat.le_refl _) _
 have cC : Calls Try.prog 70 #[.slice sa n sc, .slice (some ⟨w.heap.size, 0, none⟩) 1 1] (w.alloc (.cells #[.int .i64 3] 3)) fun e w' => e = .returned (.int .i64 (cntK [3] ss)) ∧ Below w.heap.size w w' :=
  (count_any sa n sc _ 1 1 [3] ss _ (hZ.below hB0) hn (isI_one w 3) rfl).mono (by rintro e w' ⟨rfl, h⟩; exact ⟨rfl, Below.tr hB0 h⟩)
 have hv : Hid ((decide (((cntK [3] ss : Nat) : Int) = n)) = allS ss) := by
  show _ = _
  rw [Bool.eq_iff_iff, decide_eq_true_iff, ← cnt_all, hn]
  omega
 generalize cntK [3] ss = q at *
 generalize allS ss = A at *
 clear hZ hn
 go_enter Try.func73, Try.ntmps73
 go_wp2_with (go_at_call 70; refine cC.mono ?_; rintro e w1 ⟨rfl, hb⟩)
 go_ret
 exact ⟨ret_bool (by rw [← hv.out]; first | rfl | simp), hb⟩
set_option maxRecDepth 20000 in
theorem lacks_any (h : Nat) (sa : Option Addr) (n sc : Nat) (ss : List StP) (x : Nat) (V : World) (hc : V.cell? ⟨h, 4, none⟩ = some (.slice sa n sc)) (hn : n = ss.length) (hZ : IsZ V sa sc ss) (hx : x < n) :
  Calls Try.prog 94 #[.int .i64 x, .pointer (some ⟨h, 0, none⟩)] V fun e w' => e = .returned (.bool (!decide (isAt ss x = 3))) ∧ V = w' := by
 obtain ⟨s, hs⟩ : ∃ s, ss[x]? = some s := ⟨_, List.getElem?_eq_getElem (by omega)⟩
 obtain ⟨b, o, rfl, -⟩ := hZ.some (by omega)
 obtain ⟨z0, -, -, -, -⟩ := hZ.at hs
 rw [isAt_some hs]
 have hx' : (x : Int) < n := by omega
 have hnc : n ≤ sc := by rw [hn]; exact hZ.1
 have hcm : sc ≤ 9223372036854775807 := hZ.2.1
 clear hZ hn hs
 generalize s.i = k at *
 go_enter Try.func94, Try.ntmps94
 go_wp2
 go_ret
 exact ⟨ret_bool (by by_cases hk : k = 3 <;> simp [hk]), rfl⟩
def lackB (ss : List StP) (ns : List Int) : Bool := ns.any fun x => !decide (isAt ss x.toNat = 3)
theorem lackB_all (ss : List StP) (ns : List Int) : (!lackB ss ns) = ns.all fun x => decide (isAt ss x.toNat = 3) := by
 unfold lackB
 induction ns with
 | nil => rfl
 | cons x xs ih => simp only [List.any_cons, List.all_cons, Bool.not_or, ih, Bool.not_not]
set_option maxRecDepth 20000 in
set_option maxHeartbeats 1000000 in
theorem indexLacks_any (h : Nat) (sa : Option Addr) (n sc : Nat) (ss : List StP) (a : Option Addr) (c k : Nat) (ns : List Int) (V : World) (hc : V.cell? ⟨h, 4, none⟩ = some (.slice sa n sc)) (hn : n = ss.length) (hZ : IsZ V sa sc ss) (hk : k = ns.length) (hI : IsI V a c ns) (hx : ∀ x ∈ ns, 0 ≤ x ∧ x < n) :
  Calls Try.prog 101 #[.slice a k c, .func (.func 94) #[] #[.pointer (some ⟨h, 0, none⟩)]] V fun e w' => ∃ r : Int, e = .returned (.int .i64 r) ∧ decide (0 ≤ r) = lackB ss ns ∧ V = w' := by
 have hkm : k ≤ 9223372036854775807 := by rw [hk]; exact Nat.le_trans hI.1 hI.2.1
 have HI : Hid (IsI V a c ns) := hI
 have HK : Hid (k = ns.length) := hk
 have HX : Hid (∀ x ∈ ns, 0 ≤ x ∧ x < n) := hx
 have cM : ∀ x : Nat, x < n → Calls Try.prog 94 #[.int .i64 x, .pointer (some ⟨h, 0, none⟩)] V fun e w' => e = .returned (.bool (!decide (isAt ss x = 3))) ∧ V = w' := fun x hx => lacks_any h sa n sc ss x V hc hn hZ hx
 clear hc hn hZ hk hI hx
 go_enter Try.func101, Try.ntmps101
 go_wp2
 go_loopw [8] (fun v wr => ∃ j : Nat, j ≤ k ∧ v = .int .i64 j ∧ Hid (lackB ss (ns.take j) = false) ∧ wr = V) (fun v _ => k - (intOf v).toNat)
 case atStart => exact ⟨0, by omega, rfl, rfl, rfl⟩
 case round =>
  obtain ⟨j, hj, rfl, HM, rfl⟩ := hrel
  by_cases hlt : j < k
  ·
   have hlt' : (j : Int) < k := by omega
   obtain ⟨x, hx⟩ : ∃ x, ns[j]? = some x := ⟨_, List.getElem?_eq_getElem (by rw [← HK.out]; exact hlt)⟩
   obtain ⟨b, o, rfl, -, hc⟩ := HI.out.2.2 j x hx
   obtain ⟨h0, h1⟩ := HX.out x (List.mem_of_getElem? hx)
   obtain ⟨y, rfl⟩ : ∃ y : Nat, x = y := ⟨x.toNat, by omega⟩
   have cY := cM y (by omega)
   have HMn : Hid (lackB ss (ns.take (j + 1)) = (!decide (isAt ss y = 3))) := by
    show _ = _
    have := HM.out
    unfold lackB at this ⊢
    rw [List.take_add_one, hx, List.any_append, this]
    simp
   have HT : Hid (decide (isAt ss y = 3) = false → lackB ss ns = true) := fun e => by
    unfold lackB
    rw [List.any_eq_true]
    exact ⟨(y : Int), List.mem_of_getElem? hx, by rw [Int.toNat_natCast, e]; rfl⟩
   clear cM hx h0 h1 HM
   cases hy : decide (isAt ss y = 3) with
   | true =>
    rw [hy] at cY HMn
    go_wp2_with (go_at_call 94; refine cY.mono ?_; rintro e w' ⟨rfl, rfl⟩)
    go_roundw
    case rel => exact ⟨j + 1, by omega, by go_num, HMn, trivial⟩
    case measure => simp [intOf]; omega
   | false =>
    rw [hy] at cY
    have e : Hid (lackB ss ns = true) := HT.out hy
    go_wp2_with (go_at_call 94; refine cY.mono ?_; rintro e w' ⟨rfl, rfl⟩)
    go_ret
    exact ⟨j, rfl, by rw [e.out, decide_eq_true_eq]; omega, rfl⟩
  ·
   obtain rfl : j = k := by omega
   have e : Hid (lackB ss ns = false) := by
    have := HM.out
    rw [HK.out, List.take_length] at this
    exact this
   have hx : ¬ (j : Int) < j := by omega
   clear HM cM
   go_wp2
   go_ret
   exact ⟨-1, rfl, by rw [e.out]; decide, rfl⟩
set_option maxRecDepth 20000 in
theorem containsLacks_any (h : Nat) (sa : Option Addr) (n sc : Nat) (ss : List StP) (a : Option Addr) (c k : Nat) (ns : List Int) (V : World) (hc : V.cell? ⟨h, 4, none⟩ = some (.slice sa n sc)) (hn : n = ss.length) (hZ : IsZ V sa sc ss) (hk : k = ns.length) (hI : IsI V a c ns) (hx : ∀ x ∈ ns, 0 ≤ x ∧ x < n) :
  Calls Try.prog 95 #[.slice a k c, .func (.func 94) #[] #[.pointer (some ⟨h, 0, none⟩)]] V fun e w' => e = .returned (.bool (lackB ss ns)) ∧ V = w' := by
 have cI := indexLacks_any h sa n sc ss a c k ns V hc hn hZ hk hI hx
 clear hc hn hZ hk hI hx
 go_enter Try.func95, Try.ntmps95
 go_wp2_with (go_at_call 101; refine cI.mono ?_; rintro e w' ⟨r, rfl, hr, rfl⟩)
 all_goals (go_ret; exact ⟨by rw [← hr]; rfl, rfl⟩)
set_option maxRecDepth 20000 in
set_option maxHeartbeats 1000000 in
theorem canBegin_any (ky nm : ByteArray) (ta : Option Addr) (tn tc : Nat) (is : Int) (sa : Option Addr) (n sc : Nat) (ss : List StP) (tv : List TaskV) (i : Nat) (t : TaskV) (w : World) (hZ : IsZ w sa sc ss) (hn : n = ss.length) (hT : IsT w ta tc tv) (htn : tn = tv.length) (ht : tv[i]? = some t) (hin : ∀ x ∈ t.ns, 0 ≤ x ∧ x < n) :
  Calls Try.prog 71 #[.agg #[.string ky, .string nm, .slice ta tn tc, .int .i64 is, .slice sa n sc], .int .i64 i] w fun e w' => e = .returned (.bool (readyI (plainT tv) ss i)) ∧ w' = w.alloc (.cells #[.string ky, .string nm, .slice ta tn tc, .int .i64 is, .slice sa n sc] 27) := by
 have hB : Below w.heap.size w (w.alloc (.cells #[.string ky, .string nm, .slice ta tn tc, .int .i64 is, .slice sa n sc] 27)) := (Below.refl _ _).alloc (Nat.le_refl _) _
 have hi : i < tn := by rw [htn]; exact (List.getElem?_eq_some_iff.1 ht).1
 have hi' : (i : Int) < tn := by omega
 have htc : tn ≤ tc := by rw [htn]; exact hT.1
 have htm : tc ≤ 9223372036854775807 := hT.2.1
 obtain ⟨tb, to, rfl, -⟩ := hT.some (by rw [← htn]; omega)
 obtain ⟨y0, -, -, -, hI⟩ := hT.at ht
 have y1 := cell_below hB y0
 have cC : Calls Try.prog 95 #[.slice t.a t.ns.length t.c, .func (.func 94) #[] #[.pointer (some ⟨w.heap.size, 0, none⟩)]] (w.alloc (.cells #[.string ky, .string nm, .slice (some ⟨tb, to, none⟩) tn tc, .int .i64 is, .slice sa n sc] 27)) fun e w' => e = .returned (.bool (!readyI (plainT tv) ss i)) ∧ w.alloc (.cells #[.string ky, .string nm, .slice (some ⟨tb, to, none⟩) tn tc, .int .i64 is, .slice sa n sc] 27) = w' := by
  have := containsLacks_any w.heap.size sa n sc ss t.a t.c _ t.ns (w.alloc (.cells #[.string ky, .string nm, .slice (some ⟨tb, to, none⟩) tn tc, .int .i64 is, .slice sa n sc] 27)) (World.cell?_alloc_at _ _ _ _ rfl) hn (hZ.below hB) rfl (hI.below hB) hin
  have e : (!readyI (plainT tv) ss i) = lackB ss t.ns := by unfold readyI; rw [needsAt_get ht, ← lackB_all, Bool.not_not]
  rw [e]
  exact this
 clear hZ hT htn ht hn hin hI y0
 generalize readyI (plainT tv) ss i = F at *
 generalize t.ns.length = k at *
 generalize t.a = aa at *
 generalize t.c = ac at *
 go_enter Try.func71, Try.ntmps71
 go_wp2_with (go_at_call 95; refine cC.mono ?_; rintro e w' ⟨rfl, rfl⟩)
 go_ret
 exact ⟨ret_bool (by simp), rfl⟩
set_option maxRecDepth 20000 in
theorem isKey_any (s : ByteArray) (w : World) (hs : s.size ≤ maxLen) :
  Calls Try.prog 28 #[.string s] w fun e w' => e = .returned (.bool (decide (1 ≤ s.size ∧ s.size ≤ 16))) ∧ w = w' := by
 have hsi : s.size ≤ 9223372036854775807 := hs
 by_cases h0 : s = ⟨#[]⟩
 ·
  subst h0
  go_enter Try.func28, Try.ntmps28
  go_wp2
  go_ret
  exact ⟨rfl, rfl⟩
 ·
  have h1 := empT_false h0
  have hp : 1 ≤ s.size := by
   refine Nat.lt_of_not_le fun hh => h0 ?_
   apply bytes_ext
   have : s.data.size = 0 := by have : s.size = s.data.size := rfl; omega
   rw [Array.eq_empty_of_size_eq_zero this]
  go_enter Try.func28, Try.ntmps28
  go_wp2
  go_ret
  exact ⟨ret_bool (by rw [Bool.eq_iff_iff]; simp; omega), rfl⟩
theorem isI_three (W : World) (a b d : Int) : IsI (W.alloc (.cells #[.int .i64 a, .int .i64 b, .int .i64 d] 3)) (some ⟨W.heap.size, 0, none⟩) 3 [a, b, d] := by
 refine ⟨Nat.le_refl _, by unfold maxLen; omega, fun j m hm => ⟨_, 0, rfl, by simp, ?_⟩⟩
 match j, hm with
 | 0, hm => cases hm; exact World.cell?_alloc_at _ _ _ _ rfl
 | 1, hm => cases hm; exact World.cell?_alloc_at _ _ _ _ rfl
 | 2, hm => cases hm; exact World.cell?_alloc_at _ _ _ _ rfl
def placeB (ts : List TaskP) (ss : List StP) (i : Nat) (k : Int) : Bool := if k = 0 then !readyI ts ss i else if k = 5 then true else readyI ts ss i
set_option maxRecDepth 20000 in
set_option maxHeartbeats 1000000 in
theorem inPlace_any (ky nm : ByteArray) (ta : Option Addr) (tn tc : Nat) (is : Int) (sa : Option Addr) (n sc : Nat) (ss : List StP) (tv : List TaskV) (i : Nat) (t : TaskV) (s : StP) (w : World) (hZ : IsZ w sa sc ss) (hn : n = ss.length) (hT : IsT w ta tc tv) (htn : tn = tv.length) (ht : tv[i]? = some t) (hs : ss[i]? = some s) (hin : ∀ x ∈ t.ns, 0 ≤ x ∧ x < n) :
  Calls Try.prog 43 #[.agg #[.string ky, .string nm, .slice ta tn tc, .int .i64 is, .slice sa n sc], .int .i64 i] w fun e w' => e = .returned (.bool (placeB (plainT tv) ss i s.i)) ∧ Below w.heap.size w w' := by
 have hi : i < n := by rw [hn]; exact (List.getElem?_eq_some_iff.1 hs).1
 obtain ⟨b, o, rfl, -⟩ := hZ.some (by omega)
 have hB : Below w.heap.size w (w.alloc (.cells #[.string ky, .string nm, .slice ta tn tc, .int .i64 is, .slice (some ⟨b, o, none⟩) n sc] 27)) := (Below.refl _ _).alloc (Nat.le_refl _) _
 obtain ⟨z0, -, -, -, -⟩ := (hZ.below hB).at hs
 have cB : ∀ W, Below w.heap.size w W → Calls Try.prog 71 #[.agg #[.string ky, .string nm, .slice ta tn tc, .int .i64 is, .slice (some ⟨b, o, none⟩) n sc], .int .i64 i] W fun e w' => e = .returned (.bool (readyI (plainT tv) ss i)) ∧ Below W.heap.size W w' := fun W h =>
  (canBegin_any ky nm ta tn tc is _ n sc ss tv i t W (hZ.below h) hn (hT.below h) htn ht hin).mono (by rintro e w' ⟨rfl, rfl⟩; exact ⟨rfl, (Below.refl _ _).alloc (Nat.le_refl _) _⟩)
 have hi' : (i : Int) < n := by omega
 have hnc : n ≤ sc := by rw [hn]; exact hZ.1
 have hcm : sc ≤ 9223372036854775807 := hZ.2.1
 have E : Hid (placeB (plainT tv) ss i s.i = if s.i = 0 then !readyI (plainT tv) ss i else if s.i = 5 then true else readyI (plainT tv) ss i) := rfl
 generalize placeB (plainT tv) ss i s.i = F at *
 generalize readyI (plainT tv) ss i = R at *
 generalize s.i = k at *
 clear hZ hn hT htn ht hs hin
 by_cases h0 : k = 0
 ·
  subst h0
  go_enter Try.func43, Try.ntmps43
  go_wp2_with (go_at_call 71; refine (cB _ hB).mono ?_; rintro e w1 ⟨rfl, hb⟩)
  go_ret
  exact ⟨ret_bool (by rw [E.out]; rfl), Below.tr hB hb⟩
 ·
  have k0 : (k == 0) = false := by simpa using h0
  by_cases h5 : k = 5
  ·
   subst h5
   go_enter Try.func43, Try.ntmps43
   go_wp2
   go_ret
   exact ⟨ret_bool (by rw [E.out]; simp), hB⟩
  ·
   have k5 : (k == 5) = false := by simpa using h5
   go_enter Try.func43, Try.ntmps43
   go_wp2_with (go_at_call 71; refine (cB _ hB).mono ?_; rintro e w1 ⟨rfl, hb⟩)
   go_ret
   exact ⟨ret_bool (by rw [E.out, if_neg h0, if_neg h5]), Below.tr hB hb⟩
def fitsC (ss : List StP) (is : Int) : Bool :=
 if allS ss = true then decide (is = 1) else if hasK ss 4 = true then decide (is = 2) && !openS ss else if openS ss = false then decide (is = 3) else decide (is = 0) && !hasK ss 5
theorem fitsC_same {ss : List StP} (hk : ∀ (i : Nat) s, ss[i]? = some s → 0 ≤ s.i ∧ s.i ≤ 5) (is : Int) : fitsC ss is = fitsS ss is := by
 unfold fitsC fitsS
 by_cases h : allS ss = true
 ·
  rw [if_pos h, if_pos]
  have no : ∀ k : Int, k ≠ 3 → hasK ss k = false := fun k hk => by
   rw [Bool.eq_false_iff]
   intro hx
   obtain ⟨i, s, hs, he⟩ := (hasK_iff ss k).1 hx
   have := (allS_iff ss).1 h i s hs
   omega
  refine ⟨?_, no 4 (by omega), no 5 (by omega)⟩
  unfold openS
  rw [no 0 (by omega), no 1 (by omega), no 2 (by omega)]
  rfl
 ·
  have hn : ¬ (openS ss = false ∧ hasK ss 4 = false ∧ hasK ss 5 = false) := by
   rintro ⟨h1, h2, h3⟩
   exact h ((allS_iff ss).2 fun i s hs => all_doneS (ts := []) hk h1 h2 h3 hs)
  rw [if_neg h, if_neg hn]
set_option maxRecDepth 20000 in
set_option maxHeartbeats 2000000 in
theorem fits_any (ky nm : ByteArray) (ta : Option Addr) (tn tc : Nat) (is : Int) (sa : Option Addr) (n sc : Nat) (ss : List StP) (w : World) (hZ : IsZ w sa sc ss) (hn : n = ss.length) :
  Calls Try.prog 45 #[.agg #[.string ky, .string nm, .slice ta tn tc, .int .i64 is, .slice sa n sc]] w fun e w' => e = .returned (.bool (fitsC ss is)) ∧ Below w.heap.size w w' := by
 have hB0 : Below w.heap.size w (w.alloc (.cells #[.string ky, .string nm, .slice ta tn tc, .int .i64 is, .slice sa n sc] 27)) := (Below.refl _ _).alloc (Nat.le_refl _) _
 have cA := fun W (h : Below w.heap.size w W) => areDone_any sa n sc ss W (hZ.below h) hn
 have one : ∀ (k : Int) W, Below w.heap.size w W → Calls Try.prog 70 #[.slice sa n sc, .slice (some ⟨W.heap.size, 0, none⟩) 1 1] (W.alloc (.cells #[.int .i64 k] 3)) fun e w' => e = .returned (.int .i64 (cntK [k] ss)) ∧ Below W.heap.size W w' := fun k W h =>
  (count_any sa n sc _ 1 1 [k] ss _ ((hZ.below h).alloc _) hn (isI_one W k) rfl).mono (by rintro e w' ⟨rfl, h⟩; exact ⟨rfl, Below.tr ((Below.refl _ _).alloc (Nat.le_refl _) _) h⟩)
 have c4 := one 4
 have c5 := one 5
 have c3 : Calls Try.prog 70 #[.slice sa n sc, .slice (some ⟨w.heap.size + 1, 0, none⟩) 3 3] ((w.alloc (.cells #[.string ky, .string nm, .slice ta tn tc, .int .i64 is, .slice sa n sc] 27)).alloc (.cells #[.int .i64 0, .int .i64 1, .int .i64 2] 3)) fun e w' => e = .returned (.int .i64 (cntK [0, 1, 2] ss)) ∧ Below (w.alloc (.cells #[.string ky, .string nm, .slice ta tn tc, .int .i64 is, .slice sa n sc] 27)).heap.size (w.alloc (.cells #[.string ky, .string nm, .slice ta tn tc, .int .i64 is, .slice sa n sc] 27)) w' := by
  have hz : w.heap.size + 1 = (w.alloc (.cells #[.string ky, .string nm, .slice ta tn tc, .int .i64 is, .slice sa n sc] 27)).heap.size := by simp
  rw [hz]
  exact (count_any sa n sc _ 3 3 [0, 1, 2] ss _ ((hZ.below hB0).alloc _) hn (isI_three (w.alloc (.cells #[.string ky, .string nm, .slice ta tn tc, .int .i64 is, .slice sa n sc] 27)) 0 1 2) rfl).mono (by rintro e w' ⟨rfl, h⟩; exact ⟨rfl, Below.tr ((Below.refl _ _).alloc (Nat.le_refl _) _) h⟩)
 have E : Hid (fitsC ss is = if allS ss = true then decide (is = 1) else if hasK ss 4 = true then decide (is = 2) && !openS ss else if openS ss = false then decide (is = 3) else decide (is = 0) && !hasK ss 5) := rfl
 have n4 := cnt_none 4 ss
 have n5 := cnt_none 5 ss
 have n3 := cnt_open ss
 clear one hZ hn
 generalize fitsC ss is = F at *
 generalize allS ss = A at *
 generalize cntK [4] ss = x4 at *
 generalize cntK [5] ss = x5 at *
 generalize cntK [0, 1, 2] ss = x3 at *
 generalize hasK ss 4 = H4 at *
 generalize hasK ss 5 = H5 at *
 generalize openS ss = O at *
 have t1 := trivial
 have t4 := trivial
 cases A
 ·
  cases H4
  ·
   obtain rfl : x4 = 0 := n4.2 rfl
   cases O
   ·
    obtain rfl : x3 = 0 := n3.2 rfl
    clear n3 n4 n5
    go_enter Try.func45, Try.ntmps45
    go_wp2_with (first
     | (have _t := t1; go_at_call 70; refine c3.mono ?_; clear t1 _t; rintro e w1 ⟨rfl, hb⟩; obtain ⟨br, hB⟩ := boxesR w [.string ky, .string nm, .slice ta tn tc, .int .i64 is, .slice sa n sc] 27 hb; clear hb; have q0 := br.1 0 _ rfl; have q1 := br.1 1 _ rfl; have q2 := br.1 2 _ rfl; have q3 := br.1 3 _ rfl; have q4 := br.1 4 _ rfl)
     | (go_at_call 73; refine (cA _ hB).mono ?_; rintro e w2 ⟨rfl, hb⟩; clear q0 q1 q2 q3 q4; replace br := br.below hb; replace hB := Below.tr hB hb; clear hb; have q0 := br.1 0 _ rfl; have q1 := br.1 1 _ rfl; have q2 := br.1 2 _ rfl; have q3 := br.1 3 _ rfl; have q4 := br.1 4 _ rfl)
     | (have _t := t4; go_at_call 70; refine (c4 _ hB).mono ?_; clear t4 _t; rintro e w3 ⟨rfl, hb⟩; clear q0 q1 q2 q3 q4; replace br := br.below hb; replace hB := Below.tr hB hb; clear hb; have q0 := br.1 0 _ rfl; have q1 := br.1 1 _ rfl; have q2 := br.1 2 _ rfl; have q3 := br.1 3 _ rfl; have q4 := br.1 4 _ rfl)
     | (go_at_call 70; refine (c5 _ hB).mono ?_; rintro e w4 ⟨rfl, hb⟩; clear q0 q1 q2 q3 q4; replace hB := Below.tr hB hb; clear hb))
    go_ret
    exact ⟨ret_bool (by rw [E.out]; first | rfl | simp [Bool.beq_eq_decide_eq]), hB⟩
   ·
    have hx3 : ¬ x3 = 0 := fun h => by have := n3.1 h; cases this
    have y3 : ((x3 : Int) == 0) = false := by simp; omega
    clear n3 n4 hx3
    by_cases h0 : is = 0
    ·
     have i0 : (is == 0) = true := by simpa using h0
     have HH : Hid (is = 0) := h0
     clear h0
     cases H5
     ·
      obtain rfl : x5 = 0 := n5.2 rfl
      clear n5
      go_enter Try.func45, Try.ntmps45
      go_wp2_with (first
       | (have _t := t1; go_at_call 70; refine c3.mono ?_; clear t1 _t; rintro e w1 ⟨rfl, hb⟩; obtain ⟨br, hB⟩ := boxesR w [.string ky, .string nm, .slice ta tn tc, .int .i64 is, .slice sa n sc] 27 hb; clear hb; have q0 := br.1 0 _ rfl; have q1 := br.1 1 _ rfl; have q2 := br.1 2 _ rfl; have q3 := br.1 3 _ rfl; have q4 := br.1 4 _ rfl)
       | (go_at_call 73; refine (cA _ hB).mono ?_; rintro e w2 ⟨rfl, hb⟩; clear q0 q1 q2 q3 q4; replace br := br.below hb; replace hB := Below.tr hB hb; clear hb; have q0 := br.1 0 _ rfl; have q1 := br.1 1 _ rfl; have q2 := br.1 2 _ rfl; have q3 := br.1 3 _ rfl; have q4 := br.1 4 _ rfl)
       | (have _t := t4; go_at_call 70; refine (c4 _ hB).mono ?_; clear t4 _t; rintro e w3 ⟨rfl, hb⟩; clear q0 q1 q2 q3 q4; replace br := br.below hb; replace hB := Below.tr hB hb; clear hb; have q0 := br.1 0 _ rfl; have q1 := br.1 1 _ rfl; have q2 := br.1 2 _ rfl; have q3 := br.1 3 _ rfl; have q4 := br.1 4 _ rfl)
       | (go_at_call 70; refine (c5 _ hB).mono ?_; rintro e w4 ⟨rfl, hb⟩; clear q0 q1 q2 q3 q4; replace hB := Below.tr hB hb; clear hb))
      go_ret
      exact ⟨ret_bool (by rw [E.out]; first | rfl | simp [HH.out]), hB⟩
     ·
      have hx5 : ¬ x5 = 0 := fun h => by have := n5.1 h; cases this
      have y5 : ((x5 : Int) == 0) = false := by simp; omega
      clear n5 hx5
      go_enter Try.func45, Try.ntmps45
      go_wp2_with (first
       | (have _t := t1; go_at_call 70; refine c3.mono ?_; clear t1 _t; rintro e w1 ⟨rfl, hb⟩; obtain ⟨br, hB⟩ := boxesR w [.string ky, .string nm, .slice ta tn tc, .int .i64 is, .slice sa n sc] 27 hb; clear hb; have q0 := br.1 0 _ rfl; have q1 := br.1 1 _ rfl; have q2 := br.1 2 _ rfl; have q3 := br.1 3 _ rfl; have q4 := br.1 4 _ rfl)
       | (go_at_call 73; refine (cA _ hB).mono ?_; rintro e w2 ⟨rfl, hb⟩; clear q0 q1 q2 q3 q4; replace br := br.below hb; replace hB := Below.tr hB hb; clear hb; have q0 := br.1 0 _ rfl; have q1 := br.1 1 _ rfl; have q2 := br.1 2 _ rfl; have q3 := br.1 3 _ rfl; have q4 := br.1 4 _ rfl)
       | (have _t := t4; go_at_call 70; refine (c4 _ hB).mono ?_; clear t4 _t; rintro e w3 ⟨rfl, hb⟩; clear q0 q1 q2 q3 q4; replace br := br.below hb; replace hB := Below.tr hB hb; clear hb; have q0 := br.1 0 _ rfl; have q1 := br.1 1 _ rfl; have q2 := br.1 2 _ rfl; have q3 := br.1 3 _ rfl; have q4 := br.1 4 _ rfl)
       | (go_at_call 70; refine (c5 _ hB).mono ?_; rintro e w4 ⟨rfl, hb⟩; clear q0 q1 q2 q3 q4; replace hB := Below.tr hB hb; clear hb))
      go_ret
      exact ⟨ret_bool (by rw [E.out]; first | rfl | simp [HH.out]), hB⟩
    ·
     have i0 : (is == 0) = false := by simpa using h0
     clear n5
     go_enter Try.func45, Try.ntmps45
     go_wp2_with (first
      | (have _t := t1; go_at_call 70; refine c3.mono ?_; clear t1 _t; rintro e w1 ⟨rfl, hb⟩; obtain ⟨br, hB⟩ := boxesR w [.string ky, .string nm, .slice ta tn tc, .int .i64 is, .slice sa n sc] 27 hb; clear hb; have q0 := br.1 0 _ rfl; have q1 := br.1 1 _ rfl; have q2 := br.1 2 _ rfl; have q3 := br.1 3 _ rfl; have q4 := br.1 4 _ rfl)
      | (go_at_call 73; refine (cA _ hB).mono ?_; rintro e w2 ⟨rfl, hb⟩; clear q0 q1 q2 q3 q4; replace br := br.below hb; replace hB := Below.tr hB hb; clear hb; have q0 := br.1 0 _ rfl; have q1 := br.1 1 _ rfl; have q2 := br.1 2 _ rfl; have q3 := br.1 3 _ rfl; have q4 := br.1 4 _ rfl)
      | (have _t := t4; go_at_call 70; refine (c4 _ hB).mono ?_; clear t4 _t; rintro e w3 ⟨rfl, hb⟩; clear q0 q1 q2 q3 q4; replace br := br.below hb; replace hB := Below.tr hB hb; clear hb; have q0 := br.1 0 _ rfl; have q1 := br.1 1 _ rfl; have q2 := br.1 2 _ rfl; have q3 := br.1 3 _ rfl; have q4 := br.1 4 _ rfl)
      | (go_at_call 70; refine (c5 _ hB).mono ?_; rintro e w4 ⟨rfl, hb⟩; clear q0 q1 q2 q3 q4; replace hB := Below.tr hB hb; clear hb))
     go_ret
     exact ⟨ret_bool (by rw [E.out]; first | rfl | simp [h0]), hB⟩
  ·
   have hx4 : ¬ x4 = 0 := fun h => by have := n4.1 h; cases this
   have y4 : (0 : Int) < x4 := by omega
   clear n4 n5 hx4
   cases O
   ·
    obtain rfl : x3 = 0 := n3.2 rfl
    clear n3
    by_cases h2 : is = 2
    ·
     have i2 : (is == 2) = true := by simpa using h2
     have HH : Hid (is = 2) := h2
     clear h2
     go_enter Try.func45, Try.ntmps45
     go_wp2_with (first
      | (have _t := t1; go_at_call 70; refine c3.mono ?_; clear t1 _t; rintro e w1 ⟨rfl, hb⟩; obtain ⟨br, hB⟩ := boxesR w [.string ky, .string nm, .slice ta tn tc, .int .i64 is, .slice sa n sc] 27 hb; clear hb; have q0 := br.1 0 _ rfl; have q1 := br.1 1 _ rfl; have q2 := br.1 2 _ rfl; have q3 := br.1 3 _ rfl; have q4 := br.1 4 _ rfl)
      | (go_at_call 73; refine (cA _ hB).mono ?_; rintro e w2 ⟨rfl, hb⟩; clear q0 q1 q2 q3 q4; replace br := br.below hb; replace hB := Below.tr hB hb; clear hb; have q0 := br.1 0 _ rfl; have q1 := br.1 1 _ rfl; have q2 := br.1 2 _ rfl; have q3 := br.1 3 _ rfl; have q4 := br.1 4 _ rfl)
      | (have _t := t4; go_at_call 70; refine (c4 _ hB).mono ?_; clear t4 _t; rintro e w3 ⟨rfl, hb⟩; clear q0 q1 q2 q3 q4; replace br := br.below hb; replace hB := Below.tr hB hb; clear hb; have q0 := br.1 0 _ rfl; have q1 := br.1 1 _ rfl; have q2 := br.1 2 _ rfl; have q3 := br.1 3 _ rfl; have q4 := br.1 4 _ rfl)
      | (go_at_call 70; refine (c5 _ hB).mono ?_; rintro e w4 ⟨rfl, hb⟩; clear q0 q1 q2 q3 q4; replace hB := Below.tr hB hb; clear hb))
     go_ret
     exact ⟨ret_bool (by rw [E.out]; first | rfl | simp [HH.out]), hB⟩
    ·
     have i2 : (is == 2) = false := by simpa using h2
     go_enter Try.func45, Try.ntmps45
     go_wp2_with (first
      | (have _t := t1; go_at_call 70; refine c3.mono ?_; clear t1 _t; rintro e w1 ⟨rfl, hb⟩; obtain ⟨br, hB⟩ := boxesR w [.string ky, .string nm, .slice ta tn tc, .int .i64 is, .slice sa n sc] 27 hb; clear hb; have q0 := br.1 0 _ rfl; have q1 := br.1 1 _ rfl; have q2 := br.1 2 _ rfl; have q3 := br.1 3 _ rfl; have q4 := br.1 4 _ rfl)
      | (go_at_call 73; refine (cA _ hB).mono ?_; rintro e w2 ⟨rfl, hb⟩; clear q0 q1 q2 q3 q4; replace br := br.below hb; replace hB := Below.tr hB hb; clear hb; have q0 := br.1 0 _ rfl; have q1 := br.1 1 _ rfl; have q2 := br.1 2 _ rfl; have q3 := br.1 3 _ rfl; have q4 := br.1 4 _ rfl)
      | (have _t := t4; go_at_call 70; refine (c4 _ hB).mono ?_; clear t4 _t; rintro e w3 ⟨rfl, hb⟩; clear q0 q1 q2 q3 q4; replace br := br.below hb; replace hB := Below.tr hB hb; clear hb; have q0 := br.1 0 _ rfl; have q1 := br.1 1 _ rfl; have q2 := br.1 2 _ rfl; have q3 := br.1 3 _ rfl; have q4 := br.1 4 _ rfl)
      | (go_at_call 70; refine (c5 _ hB).mono ?_; rintro e w4 ⟨rfl, hb⟩; clear q0 q1 q2 q3 q4; replace hB := Below.tr hB hb; clear hb))
     go_ret
     exact ⟨ret_bool (by rw [E.out]; first | rfl | simp [h2]), hB⟩
   ·
    have hx3 : ¬ x3 = 0 := fun h => by have := n3.1 h; cases this
    have y3 : ((x3 : Int) == 0) = false := by simp; omega
    clear n3 hx3
    by_cases h2 : is = 2
    ·
     have i2 : (is == 2) = true := by simpa using h2
     have HH : Hid (is = 2) := h2
     clear h2
     go_enter Try.func45, Try.ntmps45
     go_wp2_with (first
      | (have _t := t1; go_at_call 70; refine c3.mono ?_; clear t1 _t; rintro e w1 ⟨rfl, hb⟩; obtain ⟨br, hB⟩ := boxesR w [.string ky, .string nm, .slice ta tn tc, .int .i64 is, .slice sa n sc] 27 hb; clear hb; have q0 := br.1 0 _ rfl; have q1 := br.1 1 _ rfl; have q2 := br.1 2 _ rfl; have q3 := br.1 3 _ rfl; have q4 := br.1 4 _ rfl)
      | (go_at_call 73; refine (cA _ hB).mono ?_; rintro e w2 ⟨rfl, hb⟩; clear q0 q1 q2 q3 q4; replace br := br.below hb; replace hB := Below.tr hB hb; clear hb; have q0 := br.1 0 _ rfl; have q1 := br.1 1 _ rfl; have q2 := br.1 2 _ rfl; have q3 := br.1 3 _ rfl; have q4 := br.1 4 _ rfl)
      | (have _t := t4; go_at_call 70; refine (c4 _ hB).mono ?_; clear t4 _t; rintro e w3 ⟨rfl, hb⟩; clear q0 q1 q2 q3 q4; replace br := br.below hb; replace hB := Below.tr hB hb; clear hb; have q0 := br.1 0 _ rfl; have q1 := br.1 1 _ rfl; have q2 := br.1 2 _ rfl; have q3 := br.1 3 _ rfl; have q4 := br.1 4 _ rfl)
      | (go_at_call 70; refine (c5 _ hB).mono ?_; rintro e w4 ⟨rfl, hb⟩; clear q0 q1 q2 q3 q4; replace hB := Below.tr hB hb; clear hb))
     go_ret
     exact ⟨ret_bool (by rw [E.out]; first | rfl | simp [HH.out]), hB⟩
    ·
     have i2 : (is == 2) = false := by simpa using h2
     go_enter Try.func45, Try.ntmps45
     go_wp2_with (first
      | (have _t := t1; go_at_call 70; refine c3.mono ?_; clear t1 _t; rintro e w1 ⟨rfl, hb⟩; obtain ⟨br, hB⟩ := boxesR w [.string ky, .string nm, .slice ta tn tc, .int .i64 is, .slice sa n sc] 27 hb; clear hb; have q0 := br.1 0 _ rfl; have q1 := br.1 1 _ rfl; have q2 := br.1 2 _ rfl; have q3 := br.1 3 _ rfl; have q4 := br.1 4 _ rfl)
      | (go_at_call 73; refine (cA _ hB).mono ?_; rintro e w2 ⟨rfl, hb⟩; clear q0 q1 q2 q3 q4; replace br := br.below hb; replace hB := Below.tr hB hb; clear hb; have q0 := br.1 0 _ rfl; have q1 := br.1 1 _ rfl; have q2 := br.1 2 _ rfl; have q3 := br.1 3 _ rfl; have q4 := br.1 4 _ rfl)
      | (have _t := t4; go_at_call 70; refine (c4 _ hB).mono ?_; clear t4 _t; rintro e w3 ⟨rfl, hb⟩; clear q0 q1 q2 q3 q4; replace br := br.below hb; replace hB := Below.tr hB hb; clear hb; have q0 := br.1 0 _ rfl; have q1 := br.1 1 _ rfl; have q2 := br.1 2 _ rfl; have q3 := br.1 3 _ rfl; have q4 := br.1 4 _ rfl)
      | (go_at_call 70; refine (c5 _ hB).mono ?_; rintro e w4 ⟨rfl, hb⟩; clear q0 q1 q2 q3 q4; replace hB := Below.tr hB hb; clear hb))
     go_ret
     exact ⟨ret_bool (by rw [E.out]; first | rfl | simp [h2]), hB⟩
 ·
  clear n3 n4 n5
  go_enter Try.func45, Try.ntmps45
  go_wp2_with (first
   | (have _t := t1; go_at_call 70; refine c3.mono ?_; clear t1 _t; rintro e w1 ⟨rfl, hb⟩; obtain ⟨br, hB⟩ := boxesR w [.string ky, .string nm, .slice ta tn tc, .int .i64 is, .slice sa n sc] 27 hb; clear hb; have q0 := br.1 0 _ rfl; have q1 := br.1 1 _ rfl; have q2 := br.1 2 _ rfl; have q3 := br.1 3 _ rfl; have q4 := br.1 4 _ rfl)
   | (go_at_call 73; refine (cA _ hB).mono ?_; rintro e w2 ⟨rfl, hb⟩; clear q0 q1 q2 q3 q4; replace br := br.below hb; replace hB := Below.tr hB hb; clear hb; have q0 := br.1 0 _ rfl; have q1 := br.1 1 _ rfl; have q2 := br.1 2 _ rfl; have q3 := br.1 3 _ rfl; have q4 := br.1 4 _ rfl)
   | (have _t := t4; go_at_call 70; refine (c4 _ hB).mono ?_; clear t4 _t; rintro e w3 ⟨rfl, hb⟩; clear q0 q1 q2 q3 q4; replace br := br.below hb; replace hB := Below.tr hB hb; clear hb; have q0 := br.1 0 _ rfl; have q1 := br.1 1 _ rfl; have q2 := br.1 2 _ rfl; have q3 := br.1 3 _ rfl; have q4 := br.1 4 _ rfl)
   | (go_at_call 70; refine (c5 _ hB).mono ?_; rintro e w4 ⟨rfl, hb⟩; clear q0 q1 q2 q3 q4; replace hB := Below.tr hB hb; clear hb))
  go_ret
  exact ⟨ret_bool (by rw [E.out]; first | rfl | simp [Bool.beq_eq_decide_eq]), hB⟩
end Go.Proofs.Ytdpljpjbomhccaa
namespace Go.Proofs.Ytdpljpjbomhccaa
open Go.RowKit Go.Shelf Plain
set_option linter.unusedVariables false
attribute [local go_sem] Oper.semAt_some
def wfJ (x : Int) : Prop := (Lit.int .i64 x).wf = true
theorem wfJ_of {x : Int} (h : -9223372036854775808 ≤ x ∧ x ≤ 9223372036854775807) : wfJ x := by
 obtain ⟨h1, h2⟩ := h
 unfold wfJ
 simp [Lit.wf, IntKind.min, IntKind.max, IntKind.signed, IntKind.bits]
 exact ⟨h1, h2⟩
def tokF (l : List (Nat × StP)) (x : Int) : Option Nat := (l.reverse.find? fun p => decide (p.2.k = x)).map (·.1)
theorem tokF_snoc (l : List (Nat × StP)) (p : Nat × StP) (x : Int) : tokF (l ++ [p]) x = if p.2.k = x then some p.1 else tokF l x := by
 unfold tokF
 rw [List.reverse_append, List.reverse_singleton, List.singleton_append, List.find?_cons]
 by_cases h : p.2.k = x
 ·
  simp [h]
 ·
  simp [h]
def tokR : List (Nat × StP) → Nat
 | [] => 0
 | p :: ps => if (ps.find? fun q => decide (q.2.k = p.2.k)).isSome then tokR ps else tokR ps + 1
def tokC (l : List (Nat × StP)) : Nat := tokR l.reverse
theorem tokC_snoc (l : List (Nat × StP)) (p : Nat × StP) : tokC (l ++ [p]) = if (tokF l p.2.k).isSome = true then tokC l else tokC l + 1 := by
 unfold tokC tokF
 rw [List.reverse_append, List.reverse_singleton, List.singleton_append, Option.isSome_map]
 rfl
theorem tokR_le : ∀ l : List (Nat × StP), tokR l ≤ l.length
 | [] => Nat.le_refl _
 | p :: ps => by
  have := tokR_le ps
  unfold tokR
  rw [List.length_cons]
  split <;> omega
theorem tokR_all : ∀ l : List (Nat × StP), tokR l = l.length ↔ l.Pairwise (fun a b => b.2.k ≠ a.2.k)
 | [] => by simp [tokR]
 | p :: ps => by
  have ih := tokR_all ps
  have hl := tokR_le ps
  unfold tokR
  rw [List.length_cons, List.pairwise_cons, ← ih]
  split
  ·
   rename_i h
   obtain ⟨q, hq⟩ := Option.isSome_iff_exists.1 h
   have h1 := List.find?_some hq
   have h2 := List.mem_of_find?_eq_some hq
   constructor
   ·
    intro e; omega
   ·
    rintro ⟨a, -⟩
    exact absurd (by simpa using h1) (a q h2)
  ·
   rename_i h
   have h' : ∀ q ∈ ps, ¬ decide (q.2.k = p.2.k) = true := by simpa using h
   constructor
   ·
    intro e
    exact ⟨fun q hq => by simpa using h' q hq, by omega⟩
   ·
    rintro ⟨-, e⟩
    omega
def ReadsT (D : DataW Unit) (l : List (Nat × StP)) : Prop :=
 Maps.Tidy D ∧ (∀ x, wfJ x → Maps.has D (.int .i64 x) = (tokF l x).isSome ∧ D.atKey (.int .i64 x) (.lit (.int .i64 0)) = .lit (.int .i64 (((tokF l x).getD 0 : Nat) : Int))) ∧ Maps.size D = tokC l
theorem litJ_ne {x y : Int} (h : x ≠ y) : (Lit.int .i64 x) ≠ (.int .i64 y) := fun hh => h (by cases hh; rfl)
theorem ReadsT.put {D : DataW Unit} {l : List (Nat × StP)} (h : ReadsT D l) {p : Nat × StP} (hx : wfJ p.2.k) : ReadsT (D.put (.int .i64 p.2.k) (.lit (.int .i64 p.1))) (l ++ [p]) := by
 obtain ⟨ht, hr, hc⟩ := h
 have hkl : WideAt.IsKeyLit (.int .i64 p.2.k) := trivial
 refine ⟨ht.put hkl _, fun y hy => ?_, ?_⟩
 ·
  rw [tokF_snoc]
  by_cases e : p.2.k = y
  ·
   subst e
   rw [Maps.has_put_same ht.isMap hkl, Maps.atKey_put_same ht.isMap hkl]
   simp
  ·
   rw [Maps.has_put_other (litJ_ne fun h => e h.symm), Maps.atKey_put_other (litJ_ne fun h => e h.symm), if_neg e]
   exact hr y hy
 ·
  rw [Maps.size_put ht, (hr _ hx).1, hc, tokC_snoc]
def IsTok (w : World) (b : Nat) (l : List (Nat × StP)) : Prop :=
 ∃ D : DataW Unit, w.ownsMap Try.prog 3 (plainElem Try.prog 3) b l.length D ∧ ReadsT D l
theorem IsTok.turns {P : Nat → Prop} {w w' : World} {b : Nat} {l : List (Nat × StP)} (h : IsTok w b l) (t : Turns P w w') (hp : ¬ P b) : IsTok w' b l := by
 obtain ⟨D, ho, hr⟩ := h
 have hl := ho.lt
 obtain ⟨es, clock, h1, h2⟩ := ho
 exact ⟨D, ⟨es, clock, (t.block b hl hp).trans h1, h2⟩, hr⟩
theorem IsTok.below {w w' : World} {b : Nat} {l : List (Nat × StP)} (h : IsTok w b l) (hb : Below w.heap.size w w') : IsTok w' b l := h.turns (P := fun _ => False) (Turns.of_below hb) id
theorem zeroJ (w : World) : (zeroValue 3).run Try.prog w = .ok (.int .i64 0) w := by kernel_rfl
theorem IsTok.look {w : World} {b : Nat} {l : List (Nat × StP)} (h : IsTok w b l) {x : Int} (hx : wfJ x) :
  (Instr.lookup 67 (.map (some b)) (.int .i64 x) true).run Try.prog w = .ok (.tuple #[.int .i64 (((tokF l x).getD 0 : Nat) : Int), .bool (tokF l x).isSome]) w := by
 obtain ⟨D, ho, -, hr, -⟩ := h
 obtain ⟨v, ps, hrun, hv⟩ := ho.look_ok (Maps.int_keyed Try.underlying3) Try.underlying67 (zeroJ w) (plainElem_int Try.underlying3 (by decide)) (Maps.keyOf_int_mk Try.underlying3 hx)
 rw [(hr x hx).1] at hrun
 rw [(hr x hx).2] at hv
 obtain ⟨c, rfl, hc, -⟩ := plainElem_int_inv Try.underlying3 hv
 have hc1 := congrArg Prod.fst hc
 simp at hc1
 rw [hrun, ← hc1]
theorem IsTok.len {w : World} {b : Nat} {l : List (Nat × StP)} (h : IsTok w b l) (ty : TypeId) : (Builtin.len_ #[67] ty #[.map (some b)]).run Try.prog w = .ok (.int .i64 (tokC l)) w := by
 obtain ⟨D, ho, -, -, hc⟩ := h
 rw [ho.len Try.underlying67 ty, hc]
theorem boxL_kept {V V' : World} {row : Option Nat} {b : Nat} {vs : List Value} (h : BoxL V b vs) (hg : V.grownBy V' row) (hr : ∀ r, row = some r → ∃ o : Obj, V.heap[r]? = some o ∧ o.isCells = false) : BoxL V' b vs := by
 refine ⟨fun i v hv => cell_kept (h.1 i v hv) hg hr, fun i hi => ?_⟩
 obtain ⟨o, ho, hc⟩ := cells_of_cell (h.1 i _ (List.getElem?_eq_getElem hi))
 have e := grownBy_keeps_cells hg hr ho hc
 have := h.2 i hi
 unfold World.frozen? at this ⊢
 simp only at this ho e ⊢
 rw [e]
 exact this
set_option maxRecDepth 100000 in
set_option maxHeartbeats 2000000 in
theorem tokens_any (sa : Option Addr) (n sc : Nat) (ss : List StP) (w : World) (hZ : IsZ w sa sc ss) (hn : n = ss.length) (hk : ∀ s ∈ ss, wfJ s.k) :
  Calls Try.prog 49 #[.slice sa n sc] w fun e w' => ∃ b, e = .returned (.map (some b)) ∧ IsTok w' b (candL [2] ss) ∧ Below w.heap.size w w' := by
 obtain ⟨W1, hW1⟩ : ∃ W1, W1 = ((((w.alloc (.map #[] 0)).alloc (.cells #[.map (some w.heap.size)] 67)).alloc (.cells #[.int .i64 2] 3)).alloc (.cells #[.slice sa n sc] 25)).alloc (.cells #[.slice (some ⟨w.heap.size + 1 + 1, 0, none⟩) 1 1] 48) := ⟨_, rfl⟩
 have hB1 : Below w.heap.size w W1 := by rw [hW1]; exact (bel4 w _ _ _ _).alloc (by simp; omega) _
 have hs1 : W1.heap.size = w.heap.size + 5 := by rw [hW1]; simp
 have bm : BoxL W1 (w.heap.size + 1) [.map (some w.heap.size)] := by rw [hW1]; exact (((boxL_new (w.alloc (.map #[] 0)) [.map (some w.heap.size)] _ (by simp)).alloc _).alloc _).alloc _
 have tk : IsTok W1 w.heap.size [] := by
  rw [hW1]
  refine IsTok.below (w := w.alloc (.map #[] 0)) ⟨.map [], World.ownsMap_made w Try.prog 3 _, Maps.tidy_empty, fun x _ => ⟨rfl, rfl⟩, rfl⟩ ?_
  exact bel4 (w.alloc (.map #[] 0)) _ _ _ _
 have L : LoopT W1 (w.heap.size + 1 + 1 + 1) (w.heap.size + 1 + 1 + 1 + 1) sa n sc (some ⟨w.heap.size + 1 + 1, 0, none⟩) 1 1 [2] ss := by
  refine ⟨?_, ?_, ?_, hZ.below hB1, hn⟩
  ·
   rw [hW1]; exact cell_alloc (World.cell?_alloc_at _ _ _ _ (by simp)) _
  ·
   rw [hW1]; exact World.cell?_alloc_at _ _ _ _ (by simp)
  ·
   rw [hW1]
   have := isI_one ((w.alloc (.map #[] 0)).alloc (.cells #[.map (some w.heap.size)] 67)) 2
   have e : ((w.alloc (.map #[] 0)).alloc (.cells #[.map (some w.heap.size)] 67)).heap.size = w.heap.size + 1 + 1 := by simp
   rw [e] at this
   exact this.below (bel2 _ _ _)
 have hH := those1_hands (3 - 1) (by omega) (w.heap.size + 1 + 1 + 1) (w.heap.size + 1 + 1 + 1 + 1) sa n sc (some ⟨w.heap.size + 1 + 1, 0, none⟩) 1 1 [2] ss hn rfl W1
 have hle := cand_le [2] ss
 have hnm : n ≤ 9223372036854775807 := by rw [hn]; exact hZ.size
 have hsl : 0 < ss.length → ∀ x, sa = some x → ¬ (x.block = w.heap.size ∨ W1.heap.size ≤ x.block) := fun h0 x hx => by have := hZ.lies h0 x hx; omega
 have HN : Hid (n = ss.length) := hn
 have HK : Hid (∀ s ∈ ss, wfJ s.k) := hk
 have hmk : (Instr.makeMap 67 none).run Try.prog w = .ok (.map (some w.heap.size)) (w.alloc (.map #[] 0)) := rfl
 clear hZ hn hk
 refine (callsIn_wide (n := 3)).1 ?_
 refine callsIn_of_wp_marks Try.func49 rfl trivial ?_ rfl
 simp only [Try.ntmps49, List.size_toArray, List.length_cons, List.length_nil, Nat.reduceAdd, Nat.reduceSub, Array.replicate_succ, Array.replicate_zero, List.push_toArray, List.append_toArray, List.nil_append, List.cons_append]
 gi_wp2_with (refine ⟨trivial, ?_⟩; gi_at_call 50; refine (thoseR_any _ _ _ _ _ _ _ _).mono ?_; rintro e w2 ⟨rfl, rfl⟩)
 rw [← hW1]
 clear hW1 hmk
 refine range_known rfl (enters_of Try.func84 (by kernel_rfl) rfl) hH (fun _ => rfl)
  (fun pre V => Turns (fun k => k = w.heap.size ∨ W1.heap.size ≤ k) W1 V ∧ IsTok V w.heap.size pre)
  (fun _ _ _ => False)
  (ownFrom_turns fun s V V' h t => ⟨h.1.trans (t.mono fun k hk => .inr hk), h.2.turns t (by omega)⟩)
  (fun _ _ _ _ _ h _ _ => h)
  (fun pre V h => L.good h.1 (by omega) (by omega) (fun _ x hx => by cases hx; show ¬ (w.heap.size + 1 + 1 = w.heap.size ∨ W1.heap.size ≤ w.heap.size + 1 + 1); omega) hsl pre)
  ⟨Turns.refl _ _, tk⟩
  (fun x a' V => ∃ bx, W1.heap.size ≤ bx ∧ BoxL V bx [.int .i64 x.2.i, .int .i64 x.2.t, .int .i64 x.2.d, .int .i64 x.2.k, .string x.2.r] ∧ a' = { tmps := #[.slice sa n sc, undef, .map none, .pointer (some ⟨w.heap.size + 1, 0, none⟩), .int .i64 x.1, .pointer (some ⟨bx, 0, none⟩), .map (some w.heap.size), .slice sa n sc, .slice (some ⟨w.heap.size + 1 + 1, 0, none⟩) 1 1, .func (.func 84) #[] #[.pointer (some ⟨w.heap.size + 1 + 1 + 1, 0, none⟩), .pointer (some ⟨w.heap.size + 1 + 1 + 1 + 1, 0, none⟩)], .int .i64 x.1, .agg #[.int .i64 x.2.i, .int .i64 x.2.t, .int .i64 x.2.d, .int .i64 x.2.k, .string x.2.r], undef, undef, undef, undef, undef], defers := [] })
  (fun x a' s V V' row hs hg hr => by
   obtain ⟨bx, h1, h2, h3⟩ := hs
   exact ⟨bx, h1, boxL_kept h2 hg (fun r e => (hr r e).2), h3⟩) ?assign ?body ?done ?stop
 case assign =>
  rintro l pre x V K hi hpre hK
  dsimp only [encZ]
  obtain ⟨x1, i, t, d, k, r⟩ := x
  dsimp only at *
  gi_wp2
  refine hK _ _ (keeps_below ((Below.refl _ _).alloc (Nat.le_refl _) _)) ?_ ⟨V.heap.size, hi.1.size, boxL_new V _ _ rfl, rfl⟩
  exact ⟨hi.1.alloc _, hi.2.below ((Below.refl _ _).alloc (Nat.le_refl _) _)⟩
 case body =>
  rintro l pre x a' V ⟨t, tk⟩ ⟨bx, h1, bX, rfl⟩ hpre
  obtain ⟨hx1, hx2, -⟩ := cand_next hpre
  have hxl := (List.getElem?_eq_some_iff.1 hx1).1
  have hxk : wfJ x.2.k := HK.out _ (List.mem_of_getElem? hx1)
  have hpl : pre.length + 1 ≤ ss.length := by have := hpre.length_le; rw [List.length_append] at this; simp at this; omega
  have hxn : x.1 < n := by rw [HN.out]; exact hxl
  have hb1 := (bm.1 0 _ rfl : W1.cell? ⟨w.heap.size + 1, 0, none⟩ = _)
  have m0 := t.cell (p := ⟨w.heap.size + 1, 0, none⟩) (by show ¬ (w.heap.size + 1 = w.heap.size ∨ W1.heap.size ≤ w.heap.size + 1); omega) hb1
  have q3 := bX.1 3 _ rfl
  obtain ⟨D, ho, hr⟩ := tk
  have hput := hr.put (p := x) hxk
  have hput' : Hid (ReadsT (D.put (.int .i64 x.2.k) (.lit (.int .i64 x.1))) (pre ++ [x])) := hput
  have hlen : pre.length < maxLen := by unfold maxLen; rw [HN.out] at hnm; omega
  have hxw : wfJ (x.1 : Nat) := wfJ_of (by omega)
  clear hx1 hx2 hxl hr hput hb1
  obtain ⟨x1, i, tt, d, k, r⟩ := x
  dsimp only at *
  gi_wp2_with (gi_at_mapUpdate; refine wpListIn_mapUpdate_own _ rfl _ _ _ 67 rfl 3 3 (Maps.int_keyed Try.underlying3) Try.underlying67 _ w.heap.size pre.length D rfl ho hlen _ _ _ rfl rfl (Maps.keyOf_int_mk Try.underlying3 hxk) _ [] (plainElem_int Try.underlying3 hxw) ?_; intro w1 hown1 hg1)
  refine ⟨?_, trivial, t.grown hg1 (fun k hk => by cases hk; exact .inl rfl), ?_⟩
  ·
   exact ⟨hg1.size, fun k o hk1 hk2 _ => by rw [hg1.block k (Array.getElem?_eq_some_iff.1 hk2).1 (fun e => by cases e; omega)]; exact hk2⟩
  ·
   exact ⟨_, by rw [List.length_append]; exact hown1, hput'.out⟩
 case done =>
  rintro D V hD ⟨t, tk⟩ hK
  have m0 := t.cell (p := ⟨w.heap.size + 1, 0, none⟩) (by show ¬ (w.heap.size + 1 = w.heap.size ∨ W1.heap.size ≤ w.heap.size + 1); omega) (bm.1 0 _ rfl : W1.cell? ⟨w.heap.size + 1, 0, none⟩ = _)
  gi_wp2
  refine ⟨by simp, .inl ⟨_, _, rfl, run_takeDeferred hK, ?_⟩⟩
  refine ⟨_, results_tmp rfl _ _ _, w.heap.size, rfl, ?_, ?_⟩
  ·
   exact tk.turns (P := fun k => k = D) ((Turns.refl _ _).grown (grownBy_putObj' V D _) fun k hk => by cases hk; rfl) (by omega)
  ·
   exact (Below.turns hB1 t (by intro i hi; omega)).trans (belowK_b (w := w) (Nat.le_refl _) V D _ _ (by have := t.size; omega) hK rfl rfl)
 case stop =>
  rintro D c pre V _ _ h _
  exact h.elim
theorem candL_pair (ks : List Int) (ss : List StP) : (candL ks ss).Pairwise (fun a b => a.1 < b.1) := by
 unfold candL candTo
 rw [List.pairwise_map]
 exact List.Pairwise.filter _ List.pairwise_lt_range
theorem mem_candL {ks : List Int} {ss : List StP} {i : Nat} {s : StP} (hs : ss[i]? = some s) (h : s.i ∈ ks) : (i, s) ∈ candL ks ss := by
 unfold candL candTo
 exact List.mem_map.2 ⟨i, List.mem_filter.2 ⟨List.mem_range.2 (List.getElem?_eq_some_iff.1 hs).1, by rw [hs]; simpa using h⟩, by rw [hs]; rfl⟩
def apartB (ss : List StP) : Bool := decide (tokC (candL [2] ss) = cntK [2] ss)
theorem apartB_iff (ss : List StP) : apartB ss = true ↔ ∀ (i j : Nat) s u, i < j → ss[i]? = some s → ss[j]? = some u → s.i = 2 → u.i = 2 → s.k ≠ u.k := by
 unfold apartB cntK tokC
 rw [decide_eq_true_iff, ← List.length_reverse, tokR_all, List.pairwise_reverse]
 constructor
 ·
  intro h i j s u hij hs hu h2 g2 e
  have hP := List.pairwise_iff_getElem.1 ((candL_pair [2] ss).and h)
  obtain ⟨a, ha, ea⟩ := List.getElem_of_mem (mem_candL (ks := [2]) hs (by simp [h2]))
  obtain ⟨b, hb, eb⟩ := List.getElem_of_mem (mem_candL (ks := [2]) hu (by simp [g2]))
  rcases Nat.lt_trichotomy a b with hab | rfl | hab
  ·
   have := (hP a b ha hb hab).2
   rw [ea, eb] at this
   exact this e
  ·
   rw [ea] at eb
   cases eb
   omega
  ·
   have := (hP b a hb ha hab).1
   rw [ea, eb] at this
   simp at this
   omega
 ·
  intro h
  rw [List.pairwise_iff_getElem]
  intro a b ha hb hab e
  obtain ⟨h1, h2⟩ := candL_mem (List.getElem_mem ha)
  obtain ⟨g1, g2⟩ := candL_mem (List.getElem_mem hb)
  have hl := List.pairwise_iff_getElem.1 (candL_pair [2] ss) a b ha hb hab
  exact h _ _ _ _ hl h1 g1 (by simpa using h2) (by simpa using g2) e
set_option maxRecDepth 20000 in
set_option maxHeartbeats 1000000 in
theorem areApart_any (sa : Option Addr) (n sc : Nat) (ss : List StP) (w : World) (hZ : IsZ w sa sc ss) (hn : n = ss.length) (hk : ∀ s ∈ ss, wfJ s.k) :
  Calls Try.prog 44 #[.slice sa n sc] w fun e w' => e = .returned (.bool (apartB ss)) ∧ Below w.heap.size w w' := by
 have cT := tokens_any sa n sc ss w hZ hn hk
 have cC : ∀ W, Below w.heap.size w W → Calls Try.prog 70 #[.slice sa n sc, .slice (some ⟨W.heap.size, 0, none⟩) 1 1] (W.alloc (.cells #[.int .i64 2] 3)) fun e w' => e = .returned (.int .i64 (cntK [2] ss)) ∧ Below W.heap.size W w' := fun W hB =>
  (count_any sa n sc _ 1 1 [2] ss _ ((hZ.below hB).alloc _) hn (isI_one W 2) rfl).mono (by rintro e w' ⟨rfl, h⟩; exact ⟨rfl, Below.tr ((Below.refl _ _).alloc (Nat.le_refl _) _) h⟩)
 have hv : Hid (decide (((tokC (candL [2] ss) : Nat) : Int) = (cntK [2] ss : Nat)) = apartB ss) := by
  show _ = _
  unfold apartB
  rw [Bool.eq_iff_iff, decide_eq_true_iff, decide_eq_true_iff]
  omega
 obtain ⟨L, hL⟩ : ∃ L, L = candL [2] ss := ⟨_, rfl⟩
 rw [← hL] at cT hv
 generalize cntK [2] ss = q at *
 generalize apartB ss = A at *
 clear hZ hn hk hL
 go_enter Try.func44, Try.ntmps44
 go_wp2_with (first
  | (go_at_call 49; refine cT.mono ?_; rintro e w1 ⟨b, rfl, ht, hb⟩; have hlen := ht.len 3)
  | (go_at_call 70; refine (cC _ hb).mono ?_; rintro e w2 ⟨rfl, hb2⟩))
 go_ret
 exact ⟨ret_bool (by rw [← hv.out]; first | rfl | simp), Below.tr hb hb2⟩
end Go.Proofs.Ytdpljpjbomhccaa
namespace Go.Proofs.Ytdpljpjbomhccaa
open Go.RowKit Plain
set_option linter.unusedVariables false
structure RunOk (ky nm : ByteArray) (ts : List TaskP) (ss : List StP) (is : Int) : Prop where
 key : 1 ≤ ky.size ∧ ky.size ≤ 16
 dag : rightG nm ts = 0
 st : RightS ts ss is
noncomputable def runB (ky nm : ByteArray) (ts : List TaskP) (ss : List StP) (is : Int) : Bool := @decide (RunOk ky nm ts ss is) (Classical.propDecidable _)
theorem runB_iff {ky nm : ByteArray} {ts : List TaskP} {ss : List StP} {is : Int} : runB ky nm ts ss is = true ↔ RunOk ky nm ts ss is := by unfold runB; simp
theorem runB_no {ky nm : ByteArray} {ts : List TaskP} {ss : List StP} {is : Int} (h : ¬ RunOk ky nm ts ss is) : runB ky nm ts ss is = false := by
 rw [Bool.eq_false_iff]; exact fun hh => h (runB_iff.1 hh)
theorem inside_of {s : ByteArray} {tv : List TaskV} {n : Nat} (hn : n = tv.length) (h : rightG s (plainT tv) = 0) : n ≤ 10 ∧ 0 < n ∧ ∀ (i : Nat) t, tv[i]? = some t → ∀ x ∈ t.ns, 0 ≤ x ∧ x < n := by
 obtain ⟨h1, -, h3, -, -, -, h7⟩ := rightG_ok h
 rw [plainT_length] at h1 h3
 refine ⟨by omega, by omega, fun i t ht x hx => ?_⟩
 have := h7 i x (by rw [needsAt_get ht]; exact hx)
 rw [plainT_length] at this
 omega
theorem right_held {tr : Int} {s : StP} (h : rightT tr s = true) : (0 ≤ s.k ∧ s.k ≤ 1099511627776) ∧ (0 < s.k → s.i = 2) ∧ (s.i = 2 → 0 < s.k) := by
 have hs := (standT_iff s).1 (right_parts h).1
 refine ⟨⟨?_, hs.2.2.2.2.1⟩, fun h0 => ?_, fun h2 => ?_⟩
 ·
  by_cases h2 : s.i = 2
  ·
   have := hs.2.2.2.1.1 h2; omega
  ·
   have := hs.2.2.2.1.2 h2; omega
 ·
  apply Classical.byContradiction
  intro h2
  have := hs.2.2.2.1.2 h2; omega
 ·
  have := hs.2.2.2.1.1 h2; omega
theorem ok_own {ts : List TaskP} {ss : List StP} {is : Int} (hl : ss.length = ts.length) (he : ∀ (i : Nat) s t, ss[i]? = some s → ts[i]? = some t → rightT t.tries s = true ∧ placeB ts ss i s.i = true) :
  (apartB ss && fitsC ss is) = true ↔ RightS ts ss is := by
 have ht : ∀ (i : Nat) s, ss[i]? = some s → ∃ t, ts[i]? = some t := fun i s hs => ⟨_, List.getElem?_eq_getElem (by rw [← hl]; exact (List.getElem?_eq_some_iff.1 hs).1)⟩
 have hk : ∀ (i : Nat) s, ss[i]? = some s → 0 ≤ s.i ∧ s.i ≤ 5 := fun i s hs => by obtain ⟨t, ht⟩ := ht i s hs; exact right_kind (he i s t hs ht).1
 rw [fitsC_same hk, Bool.and_eq_true, apartB_iff]
 constructor
 ·
  rintro ⟨ha, hf⟩
  refine ⟨hl, hf, fun i s t hs ht' => ?_⟩
  obtain ⟨h1, h2⟩ := he i s t hs ht'
  refine ⟨h1, fun k u hk' hu h0 e => ?_, fun h0 => ?_, fun h0 h5 => ?_⟩
  ·
   obtain ⟨t', ht2⟩ := ht k u hu
   exact ha k i u s hk' hu hs ((right_held (he k u t' hu ht2).1).2.1 (by omega)) ((right_held h1).2.1 h0) e
  ·
   unfold placeB at h2
   rw [if_pos h0] at h2
   simpa using h2
  ·
   unfold placeB at h2
   rw [if_neg h0, if_neg h5] at h2
   exact h2
 ·
  intro h
  refine ⟨fun i j s u hij hs hu h2 g2 e => ?_, h.fits⟩
  obtain ⟨t, ht'⟩ := ht j u hu
  have hr := h.each j u t hu ht'
  exact hr.token i s hij hs ((right_held hr.right).2.2 g2) e
theorem ok_each {ts : List TaskP} {ss : List StP} {is : Int} (h : RightS ts ss is) {i : Nat} {s : StP} {t : TaskP} (hs : ss[i]? = some s) (ht : ts[i]? = some t) : rightT t.tries s = true ∧ placeB ts ss i s.i = true := by
 have hr := h.each i s t hs ht
 refine ⟨hr.right, ?_⟩
 unfold placeB
 split
 ·
  rename_i h0; rw [hr.waits h0]; rfl
 ·
  rename_i h0
  split
  ·
   rfl
  ·
   rename_i h5; exact hr.past h0 h5
structure RunIn (V : World) (z : Nat) (ky nm : ByteArray) (ta : Option Addr) (tn tc : Nat) (is : Int) (sa : Option Addr) (n sc : Nat) (tv : List TaskV) (ss : List StP) : Prop where
 box : BoxL V z [.string ky, .string nm, .slice ta tn tc, .int .i64 is, .slice sa n sc]
 hT : IsT V ta tc tv
 hZ : IsZ V sa sc ss
 htn : tn = tv.length
 hn : n = ss.length
theorem RunIn.below {V V' : World} {z : Nat} {ky nm : ByteArray} {ta : Option Addr} {tn tc : Nat} {is : Int} {sa : Option Addr} {n sc : Nat} {tv : List TaskV} {ss : List StP} (h : RunIn V z ky nm ta tn tc is sa n sc tv ss) (hb : Below V.heap.size V V') : RunIn V' z ky nm ta tn tc is sa n sc tv ss :=
 ⟨h.box.below hb, h.hT.below hb, h.hZ.below hb, h.htn, h.hn⟩
theorem RunIn.alloc {V : World} {z : Nat} {ky nm : ByteArray} {ta : Option Addr} {tn tc : Nat} {is : Int} {sa : Option Addr} {n sc : Nat} {tv : List TaskV} {ss : List StP} (h : RunIn V z ky nm ta tn tc is sa n sc tv ss) (o : Obj) : RunIn (V.alloc o) z ky nm ta tn tc is sa n sc tv ss := h.below ((Below.refl _ _).alloc (Nat.le_refl _) o)
theorem RunIn.drew {V : World} {z : Nat} {ky nm : ByteArray} {ta : Option Addr} {tn tc : Nat} {is : Int} {sa : Option Addr} {n sc : Nat} {tv : List TaskV} {ss : List StP} (h : RunIn V z ky nm ta tn tc is sa n sc tv ss) : RunIn V.drew z ky nm ta tn tc is sa n sc tv ss := h.below (Below.refl _ _).drew
theorem RunIn.bounds {V : World} {z : Nat} {ky nm : ByteArray} {ta : Option Addr} {tn tc : Nat} {is : Int} {sa : Option Addr} {n sc : Nat} {tv : List TaskV} {ss : List StP} (h : RunIn V z ky nm ta tn tc is sa n sc tv ss) : tn ≤ tc ∧ tc ≤ 9223372036854775807 ∧ n ≤ sc ∧ sc ≤ 9223372036854775807 :=
 ⟨by rw [h.htn]; exact h.hT.1, h.hT.2.1, by rw [h.hn]; exact h.hZ.1, h.hZ.2.1⟩
end Go.Proofs.Ytdpljpjbomhccaa
