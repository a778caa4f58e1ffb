/-
  Texts laid together: GrowEmpty GrowLaw LookOpen GrowIn GrowTwo GrowOnly GrowAfter GrowWith GrowRef GrowOpen GrowAllWalk GrowTreeD.
-/
import Derived.Test.YtaecfbfcjaailaaGreatBwF
import Derived.Test.YtaecfbfcjaailaaGreatBwC
import Derived.Test.YtaecfbfcjaailaaGreatBwA
import Derived.Lib.SmallJoins
import Derived.Test.YtaecfbfcjaailaaGreatBwD
import Derived.Deep.SlicePairs
namespace Go.Proofs.YtaecfbfcjaailaaGreat
open Go.RowKit Plain
open Anylast
set_option linter.unusedVariables false
def emptyM (n : Int) : Nat := (min (max n 24) 200).toNat
def emptyG (m : Nat) : WoodS := ⟨freshL m, freshL m, List.replicate m ⟨#[]⟩, 0, 1⟩
theorem emptyM_in (n : Int) : 24 ≤ emptyM n ∧ emptyM n ≤ 200 ∧ ((emptyM n : Nat) : Int) = min (max n 24) 200 := by
 unfold emptyM
 omega
def EmpV (B m : Nat) (u : Value) (X : World) : Prop :=
 ∃ a1 c1 a2 c2 g, u = .agg #[.slice a1 m c1, .slice a2 m c2, .slice (some ⟨g, 0, none⟩) m m, .int .i64 0, .int .i64 1] ∧ OwnT B X a1 c1 (freshL m) ∧ OwnT B X a2 c2 (freshL m) ∧ IsS X (some ⟨g, 0, none⟩) m (List.replicate m ⟨#[]⟩) ∧ B ≤ g ∧ g < X.heap.size
theorem EmpV.turns {P : Nat → Prop} {B m : Nat} {u : Value} {X Y : World} (h : EmpV B m u X) (t : Turns P X Y) (hp : ∀ i, P i → i < B) : EmpV B m u Y := by
 obtain ⟨a1, c1, a2, c2, g, e, o1, o2, i3, hg, gl⟩ := h
 exact ⟨a1, c1, a2, c2, g, e, o1.turns t hp, o2.turns t hp, i3.turns t (fun x hx k => by cases hx; have h1 : g < B := hp _ k; omega), hg, Nat.lt_of_lt_of_le gl t.size⟩
def empVal (B m : Nat) (i : Nat) (v : Value) (X : World) : Prop :=
 match i with
 | 0 | 2 => v = .int .i64 m
 | 1 => ∃ a1 c1 a2 c2, v = .agg #[.slice a1 m c1, .slice a2 m c2] ∧ OwnT B X a1 c1 (freshL m) ∧ OwnT B X a2 c2 (freshL m)
 | 3 => ∃ g, v = .slice (some ⟨g, 0, none⟩) m m ∧ IsS X (some ⟨g, 0, none⟩) m (List.replicate m ⟨#[]⟩) ∧ B ≤ g ∧ g < X.heap.size
 | 4 => EmpV B m v X
 | _ => True
def EmpS (h m : Nat) (W : World) (k : Nat) (X : World) : Prop :=
 ∃ v0 v1 v2 v3 v4, Box5 X h v0 v1 v2 v3 v4 ∧ (1 ≤ k → EmpV (h + 1) m (.agg #[v0, v1, v2, v3, v4]) X) ∧ Turns (fun k => k = h) W X
theorem EmpS.lo {h m k : Nat} {W X : World} (s : EmpS h m W k X) : Turns (fun k => k = h) W X := by
 obtain ⟨_, _, _, _, _, _, _, t⟩ := s
 exact t
theorem EmpS.below {h m k : Nat} {W X Y : World} (s : EmpS h m W k X) (hb : Below X.heap.size X Y) : EmpS h m W k Y := by
 obtain ⟨v0, v1, v2, v3, v4, b, f, t⟩ := s
 exact ⟨v0, v1, v2, v3, v4, b.below hb, fun hk => (f hk).turns (P := fun _ => False) (Turns.of_below hb) (fun _ => False.elim), t.tr hb⟩
theorem EmpS.put {h m k : Nat} {W X : World} {a1 : Option Addr} {c1 : Nat} {a2 : Option Addr} {c2 g : Nat} (s : EmpS h m W k X)
  (hv : OwnT (h + 1) X a1 c1 (freshL m) ∧ OwnT (h + 1) X a2 c2 (freshL m) ∧ IsS X (some ⟨g, 0, none⟩) m (List.replicate m ⟨#[]⟩) ∧ h + 1 ≤ g ∧ g < X.heap.size) :
  EmpS h m W (k + 1) (set5 X h (.slice a1 m c1) (.slice a2 m c2) (.slice (some ⟨g, 0, none⟩) m m) (.int .i64 0) (.int .i64 1)) := by
 obtain ⟨v0, v1, v2, v3, v4, b, f, t⟩ := s
 have t2 : Turns (fun k => k = h) X (set5 X h (.slice a1 m c1) (.slice a2 m c2) (.slice (some ⟨g, 0, none⟩) m m) (.int .i64 0) (.int .i64 1)) := set5_turns (P := fun k => k = h) (Turns.refl _ _) rfl _ _ _ _ _
 have e : EmpV (h + 1) m (.agg #[.slice a1 m c1, .slice a2 m c2, .slice (some ⟨g, 0, none⟩) m m, .int .i64 0, .int .i64 1]) X := ⟨a1, c1, a2, c2, g, rfl, hv⟩
 obtain ⟨bx, f0, f1, f2, f3, f4⟩ := b
 refine ⟨_, _, _, _, _, ⟨set5_box bx _ _ _ _ _, ?_, ?_, ?_, ?_, ?_⟩, fun _ => e.turns t2 (fun i hi => by omega), t.trans t2⟩
 ·
  unfold set5; simpa using f0
 ·
  unfold set5; simpa using f1
 ·
  unfold set5; simpa using f2
 ·
  unfold set5; simpa using f3
 ·
  unfold set5; simpa using f4
theorem isS_made (W : World) (n g : Nat) (Z : Array Value) (hZ : Z = (List.replicate n (Value.string ⟨#[]⟩)).toArray) (hn : n ≤ maxLen) (hg : g = W.heap.size) : IsS (W.alloc (.cells Z 9)) (some ⟨g, 0, none⟩) n (List.replicate n ⟨#[]⟩) := by
 subst hg hZ
 refine ⟨by simp, hn, fun j x hx => ?_⟩
 obtain ⟨hj, hx'⟩ := List.getElem?_eq_some_iff.1 hx
 have hx2 : x = ⟨#[]⟩ := by rw [List.getElem_replicate] at hx'; exact hx'.symm
 subst hx2
 simp at hj
 have hc : (W.alloc (.cells (List.replicate n (Value.string ⟨#[]⟩)).toArray 9)).cell? ⟨W.heap.size, j, none⟩ = some (.string ⟨#[]⟩) := (World.cell?_alloc_at _ _ _ _ rfl).trans (show (List.replicate n (Value.string ⟨#[]⟩)).toArray[j]? = some (.string ⟨#[]⟩) by simp [hj])
 exact ⟨W.heap.size, 0, rfl, by simp, by rw [Nat.zero_add]; exact hc, Nat.zero_le _⟩
def EmptyC (w : World) (e : Ending) (w' : World) (m : Nat) : Prop :=
 ∃ a1 c1 a2 c2 b3 c3, e = .returned (.agg #[.slice a1 m c1, .slice a2 m c2, .slice b3 m c3, .int .i64 0, .int .i64 1]) ∧ (IsB w' a1 c1 (freshL m) ∧ IsB w' a2 c2 (freshL m) ∧ IsS w' b3 c3 (List.replicate m ⟨#[]⟩)) ∧ Below w.heap.size w w'
set_option maxRecDepth 20000 in
set_option maxHeartbeats 4000000 in
theorem empty_any (n : Int) (w : World) (hwf : IntKind.i64.wrap n = n) :
  Calls Tryz.prog 23 #[.int .i64 n] w fun e w' => EmptyC w e w' (emptyM n) := by
 obtain ⟨h24, h200, hm⟩ := emptyM_in n
 generalize emptyM n = m at *
 have r1 := max_run (x := n) (y := 24) rfl
 have r2 := min_run hm.symm
 have wm : IntKind.i64.wrap (m : Int) = (m : Int) := i64_in _ (by omega) (by omega)
 obtain ⟨W, hW⟩ : ∃ W, W = w.alloc (.cells #[.slice none 0 0, .slice none 0 0, .slice none 0 0, .int .i64 0, .int .i64 0] 27) := ⟨_, rfl⟩
 have BO : Box5 W w.heap.size (.slice none 0 0) (.slice none 0 0) (.slice none 0 0) (.int .i64 0) (.int .i64 0) := by rw [hW]; exact box5_new _ _ _ _ _ _ _ (by simp)
 have HB : Below w.heap.size w W := by rw [hW]; exact (Below.refl _ _).alloc (Nat.le_refl _) _
 have hWs : W.heap.size = w.heap.size + 1 := by rw [hW]; simp
 obtain ⟨V0, hV0⟩ : ∃ X, X = W.drew := ⟨_, rfl⟩
 have hD0 : Below W.heap.size W V0 := by rw [hV0]; exact (Below.refl _ _).drew
 have hVs : V0.heap.size = w.heap.size + 1 := by rw [hV0]; exact hWs
 have hBV := Below.tr HB hD0
 obtain ⟨Z, hmk, hZ⟩ : ∃ Z : Array Value, (∀ W : World, (Instr.makeSlice 25 (.int .i64 m) (.int .i64 m)).run Tryz.prog W = .ok (.slice (some ⟨W.heap.size, 0, none⟩) m m) (W.alloc (.cells Z 9))) ∧ Hid (Z = (List.replicate m (Value.string ⟨#[]⟩)).toArray) :=
  ⟨madeCells #[.string ⟨#[]⟩] m, fun W => run_make_row' (P := Tryz.prog) 25 9 (.string ⟨#[]⟩) 16 Tryz.underlying25 Tryz.info9 rfl .i64 .i64 m (by omega) (by omega) W, made_one _ m⟩
 have cM : ∀ X : World, V0.heap.size ≤ X.heap.size → empVal (w.heap.size + 1) m 3 (.slice (some ⟨X.heap.size, 0, none⟩) m m) (X.alloc (.cells Z 9)) := fun X hX => ⟨X.heap.size, rfl, isS_made X m _ Z hZ.out (by unfold maxLen; omega) rfl, by omega, by simp⟩
 have cN : ∀ X, V0.heap.size ≤ X.heap.size → Calls Tryz.prog 35 #[.int .i64 m] X fun e w' => ∃ v, e = .returned v ∧ empVal (w.heap.size + 1) m 1 v w' ∧ Below X.heap.size X w' := fun X hX =>
  (allocRefNewF_any m X (by omega)).mono fun e w' hx => by
   obtain ⟨a1, c1, a2, c2, rfl, o1, o2, hb⟩ := hx
   exact ⟨_, rfl, ⟨a1, c1, a2, c2, rfl, o1.mono (by omega), o2.mono (by omega)⟩, hb⟩
 have S0 : EmpS w.heap.size m V0 0 V0 := ⟨_, _, _, _, _, BO.below hD0, fun h => by omega, Turns.refl _ _⟩
 clear hm hWs
 go_enter Tryz.func23, Tryz.ntmps23
 go_wp2
 rw [← hW]
 refine region_chain (by kernel_rfl) [5] (empVal (w.heap.size + 1) m) (EmpS w.heap.size m V0) (Turns (fun k => k = w.heap.size)) (by kernel_rfl) (by kernel_rfl) ?mono (by rw [← hV0]; exact S0) ?step 6 rfl ?done
 case mono =>
  intro i v X Y t hv
  unfold empVal at hv ⊢
  split at hv
  ·
   exact hv
  ·
   exact hv
  ·
   obtain ⟨a1, c1, a2, c2, e, o1, o2⟩ := hv
   exact ⟨a1, c1, a2, c2, e, o1.turns t (fun i e => by omega), o2.turns t (fun i e => by omega)⟩
  ·
   obtain ⟨g, e, i3, hg, gl⟩ := hv
   exact ⟨g, e, i3.turns t (fun x hx k => by cases hx; simp only at k; omega), hg, Nat.lt_of_lt_of_le gl t.size⟩
  ·
   exact EmpV.turns hv t (fun i e => by omega)
  ·
   trivial
 case step =>
  clear hW hV0 hD0 hBV S0 BO HB hVs
  intro i oo ho k a9 X hk6 hmay hS hdf hsz hdep hsame
  match i, ho with
  | 0, ho =>
   cases ho
   have h0 := hsame 0 rfl
   exact op_value rfl (wanted_free rfl) (by clear hdep hsame hsz hdf; go_simp) rfl (by rw [if_neg (by decide)]; exact hS) (Turns.refl _ _)
  | 1, ho =>
   cases ho
   obtain ⟨_, h6, rfl⟩ := hdep 0 _ 6 rfl rfl rfl
   exact op_call rfl (wanted_free rfl) (by clear hdep hsame hsz hdf; go_simp) ((cN X (hS.lo.size)).mono fun e X' hx => by
    obtain ⟨v, he, hv, hb⟩ := hx
    exact ⟨v, he, hv, by rw [if_neg (by decide)]; exact hS.below hb, Turns.of_below hb⟩)
  | 2, ho =>
   cases ho
   have h0 := hsame 0 rfl
   exact op_value rfl (wanted_free rfl) (by clear hdep hsame hsz hdf; go_simp) rfl (by rw [if_neg (by decide)]; exact hS) (Turns.refl _ _)
  | 3, ho =>
   cases ho
   obtain ⟨_, h8, rfl⟩ := hdep 2 _ 8 rfl rfl rfl
   have hA := (Below.refl X.heap.size X).alloc (Nat.le_refl _) (.cells Z 9)
   have hx := hmk X
   exact op_value (w' := X.alloc (.cells Z 9)) rfl (wanted_free rfl) (by clear hdep hsame hsz hdf; go_simp) (cM X hS.lo.size) (by rw [if_neg (by decide)]; exact hS.below hA) (Turns.of_below hA)
  | 4, ho =>
   cases ho
   obtain ⟨_, h7, ⟨a1, c1, a2, c2, rfl, o1, o2⟩⟩ := hdep 1 _ 7 rfl rfl rfl
   obtain ⟨_, h9, ⟨g, rfl, i3, hg, gl⟩⟩ := hdep 3 _ 9 rfl rfl rfl
   exact op_value rfl (wanted_free rfl) (by clear hdep hsame hsz hdf; go_simp) ⟨a1, c1, a2, c2, g, rfl, o1, o2, i3, hg, gl⟩ (by rw [if_neg (by decide)]; exact hS) (Turns.refl _ _)
  | 5, ho =>
   cases ho
   have h2 := hsame 2 rfl
   obtain ⟨_, h10, ⟨a1, c1, a2, c2, g, rfl, oo⟩⟩ := hdep 4 _ 10 rfl rfl rfl
   have hS2 := hS.put oo
   obtain ⟨v0, v1, v2, v3, v4, bx, -, tt⟩ := id hS
   obtain ⟨⟨x0, x1, x2, x3, x4⟩, f0, f1, f2, f3, f4⟩ := bx
   have hT : Turns (fun k => k = w.heap.size) X (set5 X w.heap.size (.slice a1 m c1) (.slice a2 m c2) (.slice (some ⟨g, 0, none⟩) m m) (.int .i64 0) (.int .i64 1)) := set5_turns (P := fun k => k = w.heap.size) (Turns.refl _ _) rfl _ _ _ _ _
   unfold set5 at hT hS2
   exact op_skip (w' := ((((X.setCell ⟨w.heap.size, 0, none⟩ (.slice a1 m c1)).setCell ⟨w.heap.size, 1, none⟩ (.slice a2 m c2)).setCell ⟨w.heap.size, 2, none⟩ (.slice (some ⟨g, 0, none⟩) m m)).setCell ⟨w.heap.size, 3, none⟩ (.int .i64 0)).setCell ⟨w.heap.size, 4, none⟩ (.int .i64 1)) rfl (wanted_free rfl) rfl (by clear hdep hsame hsz hdf hS2 hT; go_simp) trivial (by rw [if_pos (by decide)]; exact hS2) hT
  | k + 6, ho => simp at ho
 case done =>
  intro val X hS hV
  clear hV cN cM S0 BO
  obtain ⟨v0, v1, v2, v3, v4, bx, ev, tt⟩ := hS
  obtain ⟨a1, c1, a2, c2, g, e, o1, o2, i3, hg, gl⟩ := ev (by decide)
  have HL : Hid (Below w.heap.size w X) := Below.turns hBV tt fun i e => by omega
  have HE : Hid (EmptyC w (.returned (.agg #[v0, v1, v2, v3, v4])) X m) := ⟨a1, c1, a2, c2, _, _, by rw [e], ⟨o1.isB, o2.isB, i3⟩, HL.out⟩
  obtain ⟨⟨x0, x1, x2, x3, x4⟩, -⟩ := bx
  clear ev e o1 o2 i3 hg gl tt
  simp [filledN]
  go_wp2
  refine bodyPost_ret (v := .agg #[v0, v1, v2, v3, v4]) (by simp [results, Tryz.results23, go_sem, x0, x1, x2, x3, x4]) rfl HE.out
theorem alive_plain : (allR (emptyG 24) [(⟨#[97]⟩, ⟨#[49]⟩)]).1 = 0 ∧ (allR (emptyG 24) [(⟨#[97]⟩, ⟨#[49]⟩)]).2.root = 10 ∧ (allR (emptyG 24) [(⟨#[97]⟩, ⟨#[49]⟩)]).2.pages.length = 24 := by decide +kernel
end Go.Proofs.YtaecfbfcjaailaaGreat
namespace Go.Proofs.YtaecfbfcjaailaaGreat
open Go.RowKit Plain
set_option linter.unusedVariables false
set_option maxRecDepth 20000 in
theorem small09_any (a a' b : Option Addr) (n c n' c' p f : Nat) (root gen : Int) (w : World) (hn : n' ≤ 9223372036854775807) (hp : p ≤ 9223372036854775807) :
  Calls Tryz.prog 9 #[.agg #[.slice a n c, .slice a' n' c', .slice b p f, .int .i64 root, .int .i64 gen]] w fun e w' => e = .returned (.bool (decide (n' ≤ 300) && decide (p ≤ 300))) ∧ Below w.heap.size w w' := by
 have HB : Below w.heap.size w (w.alloc (.cells #[.slice a n c, .slice a' n' c', .slice b p f, .int .i64 root, .int .i64 gen] 27)) := (Below.refl _ _).alloc (Nat.le_refl _) _
 obtain ⟨r, hr⟩ : ∃ r, r = (decide (n' ≤ 300) && decide (p ≤ 300)) := ⟨_, rfl⟩
 rw [← hr]
 by_cases h1 : n' ≤ 300
 ·
  have h1' : (n' : Int) ≤ 300 := by omega
  have hr' : Hid (r = decide ((p : Int) ≤ 300)) := by
   show _ = _
   rw [hr, decide_eq_true h1, Bool.true_and]
   exact decide_eq_decide.2 (by omega)
  clear hr h1
  go_enter Tryz.func9, Tryz.ntmps9
  go_wp2
  go_ret
  exact ⟨by rw [hr'.out]; rfl, HB⟩
 ·
  have h1' : ¬ (n' : Int) ≤ 300 := by omega
  have hr' : r = false := by rw [hr, decide_eq_false h1]; rfl
  clear hr h1
  go_enter Tryz.func9, Tryz.ntmps9
  go_wp2
  go_ret
  exact ⟨rfl, HB⟩
set_option maxRecDepth 20000 in
theorem isPair_any (key val : ByteArray) (w : World) (mk : key.size ≤ maxLen) (mv : val.size ≤ maxLen) :
  Calls Tryz.prog 13 #[.string key, .string val] w fun e w' => e = .returned (.bool (isPairB key val)) ∧ Below w.heap.size w w' := by
 have mki : key.size ≤ 9223372036854775807 := mk
 have mvi : val.size ≤ 9223372036854775807 := mv
 have HB : Below w.heap.size w w := Below.refl _ _
 obtain ⟨r, hr⟩ : ∃ r, r = isPairB key val := ⟨_, rfl⟩
 rw [← hr]
 by_cases h1 : 1 ≤ key.size
 ·
  have h1' : (1 : Int) ≤ key.size := by omega
  by_cases h2 : key.size ≤ 32
  ·
   have h2' : (key.size : Int) ≤ 32 := by omega
   have hr' : Hid (r = decide ((val.size : Int) ≤ 200)) := by
    show _ = _
    rw [hr, Bool.eq_iff_iff, isPairB_iff, decide_eq_true_eq]
    exact ⟨fun h => by have := h.2; omega, fun h => ⟨⟨h1, h2⟩, by omega⟩⟩
   clear hr h1 h2
   go_enter Tryz.func13, Tryz.ntmps13
   go_wp2
   go_ret
   exact ⟨by rw [hr'.out]; rfl, HB⟩
  ·
   have h2' : ¬ (key.size : Int) ≤ 32 := by omega
   obtain rfl : r = false := by rw [hr, ← Bool.not_eq_true, isPairB_iff]; intro h; have h3 := h.1.1; have h4 := h.1.2; omega
   clear hr h1 h2
   go_enter Tryz.func13, Tryz.ntmps13
   go_wp2
   go_ret
   exact ⟨rfl, HB⟩
 ·
  have h1' : ¬ (1 : Int) ≤ key.size := by omega
  obtain rfl : r = false := by rw [hr, ← Bool.not_eq_true, isPairB_iff]; intro h; have h3 := h.1.1; have h4 := h.1.2; omega
  clear hr h1
  go_enter Tryz.func13, Tryz.ntmps13
  go_wp2
  go_ret
  exact ⟨rfl, HB⟩
set_option maxRecDepth 20000 in
set_option maxHeartbeats 2000000 in
theorem alive09_any (w : World) : Calls Tryz.prog 10 #[] w fun e w' => e = .returned (.bool true) ∧ Below w.heap.size w w' := by
 have cE : Calls Tryz.prog 23 #[.int .i64 24] w fun e w' => EmptyC w e w' 24 := empty_any 24 w rfl
 have cP : ∀ V (a1 : Option Addr) (c1 : Nat) (a2 : Option Addr) (c2 : Nat) (b3 : Option Addr) (c3 : Nat), IsB V a1 c1 (freshL 24) → IsB V a2 c2 (freshL 24) → IsS V b3 c3 (List.replicate 24 ⟨#[]⟩) → Calls Tryz.prog 11 #[.agg #[.slice a1 24 c1, .slice a2 24 c2, .slice b3 24 c3, .int .i64 0, .int .i64 1], .string ⟨#[97]⟩, .string ⟨#[49]⟩] V fun e w' => AllC V e w' (allR (emptyG 24) [(⟨#[97]⟩, ⟨#[49]⟩)]) := fun V a1 c1 a2 c2 b3 c3 i1 i2 i3 =>
  growPut1_any a1 a2 b3 c1 c2 c3 (emptyG 24) ⟨#[97]⟩ ⟨#[49]⟩ V i1 i2 i3 (by decide) (by decide)
 obtain ⟨r1, r2, r3⟩ := alive_plain
 generalize allR (emptyG 24) [(⟨#[97]⟩, ⟨#[49]⟩)] = R at *
 obtain ⟨rE, ⟨rb, rn, rp, rr, rg⟩⟩ := R
 simp only at r1 r2 r3
 subst r1 r2
 have HR3 : Hid (rp.length = 24) := r3
 clear r3
 go_enter Tryz.func10, Tryz.ntmps10
 go_wp2_with (first
  | (go_at_call 23; refine cE.mono ?_; rintro y w1 ⟨a1, c1, a2, c2, b3, c3, rfl, ⟨i1, i2, i3⟩, HB⟩)
  | (go_at_call 11; refine (cP _ _ _ _ _ _ _ i1 i2 i3).mono ?_; rintro y w2 ⟨d1, k1, d2, k2, d3, k3, rfl, -, -, hb⟩; replace HB := (Below.tr HB hb).alloc (Below.tr HB hb).size (.cells #[.slice d1 rb.length k1, .slice d2 rn.length k2, .slice d3 24 k3, .int .i64 10, .int .i64 rg] 27); rw [HR3.out]; clear hb i1 i2 i3; obtain ⟨x0, x1, x2, x3, x4⟩ := woodBox_new w2 (.slice d1 rb.length k1) (.slice d2 rn.length k2) (.slice d3 24 k3) (.int .i64 10) (.int .i64 rg) 27 rfl))
 go_ret
 exact ⟨rfl, HB⟩
end Go.Proofs.YtaecfbfcjaailaaGreat
namespace Go.Proofs.YtaecfbfcjaailaaGreat
open Go.RowKit Plain Go.ChangeShapes Go.WideShapes
set_option linter.unusedVariables false
end Go.Proofs.YtaecfbfcjaailaaGreat
namespace Go.Proofs.YtaecfbfcjaailaaGreat
open Go.RowKit Plain
set_option linter.unusedVariables false
def WoodL (V : World) (a : Option Addr) (n c : Nat) (a' : Option Addr) (n' c' : Nat) (b : Option Addr) (p f : Nat) (G : WoodS) : Prop :=
 n = G.base.length ∧ n' = G.now.length ∧ p = G.pages.length ∧ IsB V a c G.base ∧ IsB V a' c' G.now ∧ IsS V b f G.pages
section
variable {V V' : World} {a : Option Addr} {n c : Nat} {a' : Option Addr} {n' c' : Nat} {b : Option Addr} {p f : Nat} {G : WoodS}
theorem WoodL.below (x : WoodL V a n c a' n' c' b p f G) (hb : Below V.heap.size V V') : WoodL V' a n c a' n' c' b p f G :=
 ⟨x.1, x.2.1, x.2.2.1, x.2.2.2.1.below hb, x.2.2.2.2.1.below hb, x.2.2.2.2.2.below hb⟩
theorem WoodL.small (x : WoodL V a n c a' n' c' b p f G) : Calls Tryz.prog 9 #[.agg #[.slice a n c, .slice a' n' c', .slice b p f, .int .i64 G.root, .int .i64 G.gen]] V fun e w' => e = .returned (.bool (decide (n' ≤ 300) && decide (p ≤ 300))) ∧ Below V.heap.size V w' :=
 small09_any a a' b n c n' c' p f G.root G.gen V (by rw [x.2.1]; exact Nat.le_trans x.2.2.2.2.1.1 x.2.2.2.2.1.2.1) (by rw [x.2.2.1]; exact Nat.le_trans x.2.2.2.2.2.1 x.2.2.2.2.2.2.1)
theorem WoodL.right (x : WoodL V a n c a' n' c' b p f G) : Calls Tryz.prog 12 #[.agg #[.slice a n c, .slice a' n' c', .slice b p f, .int .i64 G.root, .int .i64 G.gen]] V fun e w' => e = .returned (.bool G.right) ∧ Below V.heap.size V w' :=
 refRightW_any a a' b n c n' c' p f G.base G.now G.pages G.root G.gen V x.1 x.2.1 x.2.2.1 x.2.2.2.1 x.2.2.2.2.1 x.2.2.2.2.2
def TreeC (V : World) (y : Ending) (w' : World) (t : TreeS) : Prop :=
 ∃ q d r k, y = .returned (.pointer (some ⟨V.heap.size + 1, 0, none⟩)) ∧ Box4 w' (V.heap.size + 1) (.slice q t.pairs.length d) (.slice r t.blocks.length k) (.int .i64 t.height) (.bool t.bad) ∧ (IsQ w' q d t.pairs ∧ IsI w' r k t.blocks) ∧ Below V.heap.size V w'
theorem WoodL.tree (x : WoodL V a n c a' n' c' b p f G) : Calls Tryz.prog 15 #[.agg #[.slice a n c, .slice a' n' c', .slice b p f, .int .i64 G.root, .int .i64 G.gen]] V fun y w' => TreeC V y w' G.tree := by
 refine (tree_any a a' b n c n' c' p f G.now G.pages G.root G.gen V x.2.1 x.2.2.1 x.2.2.2.2.1 x.2.2.2.2.2).mono ?_
 rintro y w' ⟨u1, u2, rfl, T, hb⟩
 obtain ⟨q, d, rfl, hQ, -⟩ := owned_isQ T.r1 rfl tree_sized
 obtain ⟨r, k, rfl, hI⟩ : ∃ r k, u2 = .slice r (treeS G.now G.pages G.root G.gen).blocks.length k ∧ IsI w' r k (treeS G.now G.pages G.root G.gen).blocks := by
  rcases T.r2.2 with ⟨e, hz⟩ | ⟨g, cap, cur, e, hg, hcur, hnc, hcm, hsz, htk⟩
  ·
   refine ⟨none, 0, ?_, ?_⟩
   ·
    rw [hz]; exact e
   ·
    rw [List.length_eq_zero_iff.1 hz]; exact isI_nil _
  ·
   refine ⟨some ⟨g, 0, none⟩, cap, e, hnc, hcm, fun j z hz => ⟨g, 0, rfl, (T.r2.lt g (by rw [e]; rfl)).2, ?_⟩⟩
   have := T.r2.cells (g := g) (by rw [e]; rfl) j (.int .i64 z) (by simp [hz])
   rw [at_add] at this
   exact this
 exact ⟨q, d, r, k, rfl, T.box, ⟨hQ, hI⟩, hb⟩
def getT (P : List (ByteArray × ByteArray)) (key : ByteArray) : ByteArray × Int := if 1 ≤ key.size ∧ key.size ≤ 32 then getP P key else (⟨#[]⟩, 1)
def PutC (w : World) (e : Ending) (w' : World) (R : Int × WoodS) : Prop :=
 ∃ b1 m1 c1 b2 m2 c2 b3 m3 c3, e = .returned (.tuple #[.agg #[.slice b1 m1 c1, .slice b2 m2 c2, .slice b3 m3 c3, .int .i64 R.2.root, .int .i64 R.2.gen], .int .i64 R.1]) ∧ WoodL w' b1 m1 c1 b2 m2 c2 b3 m3 c3 R.2 ∧ Below w.heap.size w w'
theorem AllC.letters {w w' : World} {e : Ending} {R : Int × WoodS} (h : AllC w e w' R) : PutC w e w' R := by
 obtain ⟨a1, c1, a2, c2, b3, c3, rfl, ⟨i1, i2, i3⟩, -, hb⟩ := h
 exact ⟨a1, _, c1, a2, _, c2, b3, _, c3, rfl, ⟨rfl, rfl, rfl, i1, i2, i3⟩, hb⟩
theorem WoodL.put (x : WoodL V a n c a' n' c' b p f G) (key val : ByteArray) (mk : key.size ≤ maxLen) (mv : val.size ≤ maxLen) : Calls Tryz.prog 11 #[.agg #[.slice a n c, .slice a' n' c', .slice b p f, .int .i64 G.root, .int .i64 G.gen], .string key, .string val] V fun e w' => PutC V e w' (allR G [(key, val)]) := by
 obtain ⟨rfl, rfl, rfl, hB, hB', hP⟩ := x
 exact (growPut1_any a a' b c c' f G key val V hB hB' hP mk mv).mono fun e w' h => h.letters
theorem WoodL.all (x : WoodL V a n c a' n' c' b p f G) {d : Option Addr} {k dc : Nat} {ps : List (ByteArray × ByteArray)} (hk : k = ps.length) (hQ : IsQ V d dc ps) : Calls Tryz.prog 21 #[.agg #[.slice a n c, .slice a' n' c', .slice b p f, .int .i64 G.root, .int .i64 G.gen], .slice d k dc] V fun e w' => PutC V e w' (allR G ps) := by
 obtain ⟨rfl, rfl, rfl, hB, hB', hP⟩ := x
 exact (growAll_any a a' b d c c' f k dc G ps V hk hB hB' hP hQ).mono fun e w' h => h.letters
end
theorem put_answers {G : WoodS} (hr : G.right = true) (hb : G.tree.bad = false) (key val : ByteArray) :
  (isPairB key val = false ∧ allR G [(key, val)] = (1, WoodS.none)) ∨ isPairB key val = true ∧ ((allR G [(key, val)] = (60, WoodS.none) ∧ (G.free : Int) < 2 * G.tree.height + 1) ∨ ∃ G', allR G [(key, val)] = (0, G') ∧ putG G key val = (0, G') ∧ G'.right = true ∧ G'.tree.bad = false ∧ G'.tree.pairs = withP G.tree.pairs key val ∧ KeepsG G G' G.tree.blocks G'.tree.blocks) := by
 rw [allR_one, if_pos hr]
 cases hp : isPairB key val with
 | false =>
  left
  refine ⟨rfl, ?_⟩
  have e : (putG G key val).1 = 1 := by unfold putG; rw [hp]; rfl
  rw [e]
  rfl
 | true =>
  right
  refine ⟨rfl, ?_⟩
  rcases put_tree hr hb hp with ⟨h1, h2⟩ | ⟨G', h1, h2⟩
  ·
   left
   rw [h1]
   exact ⟨rfl, h2⟩
  ·
   right
   refine ⟨G', ?_, h1, h2⟩
   rw [h1]
   rfl
def WoodS.only (G : WoodS) : Prop := ∀ b, G.has b ↔ (0 ≤ b ∧ b < 10) ∨ b ∈ G.tree.blocks
theorem only_put {G G' : WoodS} (h : G.only) (hB : ∀ b ∈ G.tree.blocks, 10 ≤ b) (k : KeepsG G G' G.tree.blocks G'.tree.blocks) : G'.only := by
 intro b
 rw [k.now b]
 constructor
 ·
  rintro (⟨h1, h2⟩ | h1)
  ·
   rcases (h b).1 h1 with h3 | h3
   ·
    exact .inl h3
   ·
    exact absurd h3 h2
  ·
   exact .inr h1
 ·
  rintro (h1 | h1)
  ·
   left
   exact ⟨(h b).2 (.inl h1), fun h2 => by have := hB b h2; omega⟩
  ·
   exact .inr h1
theorem empty_tree (m : Nat) : (emptyG m).tree = TreeS.none := by
 unfold WoodS.tree treeS emptyG
 rw [if_pos rfl]
theorem Plain.TreeOf.more {H H' : Int → Bool → Option NodeS} : ∀ {ht : Nat} {r : Bool} {block : Int} {low high : ByteArray} {Q : List (ByteArray × ByteArray)} {B : List Int}, TreeOf H ht r block low high Q B → (∀ b ∈ B, ∀ r n, H b r = some n → H' b r = some n) → TreeOf H' ht r block low high Q B
 | 0, _, _, _, _, _, _, h, _ => h
 | ht + 1, r, block, low, high, Q, B, ⟨n, C, h1, h2, h3, h4⟩, hh => by
  refine ⟨n, C, hh block (by rw [h3]; simp) r n h1, h2, h3, ?_⟩
  rcases h4 with h4 | ⟨a, b, c⟩
  ·
   exact .inl h4
  ·
   exact .inr ⟨a, b, c.mono fun b l u Q' B' hb hx => hx.more fun y hy => hh y (by rw [h3]; simp [hb y hy])⟩
theorem tree_blocks {G : WoodS} (hb : G.tree.bad = false) : G.tree.blocks.Nodup ∧ ∀ b ∈ G.tree.blocks, G.has b ∧ 10 ≤ b ∧ b < G.now.length := by
 by_cases hr : G.root = 0
 ·
  have e : G.tree = TreeS.none := by unfold WoodS.tree treeS; rw [if_pos hr]
  rw [e]
  exact ⟨List.nodup_nil, fun b h => by simp [TreeS.none] at h⟩
 ·
  obtain ⟨ht, Q, B, h1, h8, hT, hn, e⟩ := root_tree hr hb
  rw [e]
  exact ⟨hn, tree_has hT⟩
theorem howN_mem {f : Nat → Bool} {k : Nat} {L : List Nat} (hn : L.Nodup) (h : ∀ i, (i < k ∧ f i = true) ↔ i ∈ L) : howN f k = L.length := by
 rw [howN_filter]
 refine List.Perm.length_eq ((List.perm_ext_iff_of_nodup (List.Nodup.sublist List.filter_sublist List.nodup_range) hn).2 fun i => ?_)
 rw [List.mem_filter, List.mem_range]
 exact h i
theorem only_free {G : WoodS} {m : Nat} (ho : G.only) (hb : G.tree.bad = false) (hB : G.base = freshL m) (hm : G.now.length = m) (h10 : 10 ≤ m) : G.free + 10 + G.tree.blocks.length = m := by
 obtain ⟨hn, hh⟩ := tree_blocks hb
 have h1 : howN (fun i => atB G.now i) m = (List.range 10 ++ G.tree.blocks.map Int.toNat).length := by
  refine howN_mem ?_ fun i => ?_
  ·
   rw [List.nodup_append]
   refine ⟨List.nodup_range, ?_, fun a ha b hb' => ?_⟩
   ·
    show List.Pairwise _ _
    rw [List.pairwise_map]
    refine List.Pairwise.imp_of_mem (fun {x y} hx hy hne e => hne ?_) hn
    have := hh x hx
    have := hh y hy
    omega
   ·
    obtain ⟨x, hx, rfl⟩ := List.mem_map.1 hb'
    have := hh x hx
    rw [List.mem_range] at ha
    omega
  ·
   rw [List.mem_append, List.mem_range, List.mem_map]
   have hi := ho (i : Int)
   unfold WoodS.has at hi
   rw [Int.toNat_natCast] at hi
   constructor
   ·
    rintro ⟨h2, h3⟩
    rcases hi.1 ⟨by omega, h3⟩ with h4 | h4
    ·
     left; omega
    ·
     exact .inr ⟨_, h4, by simp⟩
   ·
    rintro (h2 | ⟨x, hx, rfl⟩)
    ·
     exact ⟨by omega, (hi.2 (.inl (by omega))).2⟩
    ·
     have h3 := hh x hx
     exact ⟨by omega, h3.1.2⟩
 have h2 : howN (fun i => atB G.now i || freeB G.base G.now i) m = howN (fun i => atB G.now i) m + howN (freeB G.base G.now) m := howN_or fun i hi => ⟨rfl, fun hx => by
  have := ((freeB_iff _ _ _).1 hx.2).2.1
  rw [this] at hx
  exact absurd hx.1 (by decide)⟩
 have h3 : howN (fun i => atB G.now i || freeB G.base G.now i) m = m := howN_all fun i hi => by
  cases h : atB G.now i with
  | true => rfl
  | false =>
   rw [Bool.false_or]
   refine (freeB_iff _ _ _).2 ⟨by omega, h, ?_⟩
   rw [hB, freshL_at hi]
   refine decide_eq_false fun h4 => ?_
   have := ((ho (i : Int)).2 (.inl (by omega))).2
   rw [Int.toNat_natCast, h] at this
   cases this
 have h4 : G.free = howN (freeB G.base G.now) m := by unfold WoodS.free; rw [hm]
 rw [List.length_append, List.length_map, List.length_range] at h1
 omega
theorem small_high {G : WoodS} (hb : G.tree.bad = false) (hm : G.now.length ≤ 300) : G.tree.height ≤ 4 := by
 by_cases hr : G.root = 0
 ·
  have e : G.tree = TreeS.none := by unfold WoodS.tree treeS; rw [if_pos hr]
  rw [e]
  decide
 ·
  obtain ⟨ht, Q, B, h1, h8, hT, hn, e⟩ := root_tree hr hb
  have := least4 (tree_high hT hn hm h1)
  rw [e]
  show (ht : Int) ≤ 4
  omega
theorem empty_right {m : Nat} (h24 : 24 ≤ m) (h200 : m ≤ 200) : (emptyG m).right = true := by
 refine right_ok.2 ⟨⟨freshL_right h24 (by omega), ?_, ?_, ?_, ?_⟩, .inl rfl⟩
 ·
  show (List.replicate m _).length = (freshL m).length
  rw [List.length_replicate, freshL_length]
 ·
  show (1 : Int) ≤ 1
  decide
 ·
  show (1 : Int) ≤ 1099511627776
  decide
 ·
  intro s hs
  have := (List.mem_replicate.1 hs).2
  rw [this]
  exact Nat.zero_le _
theorem empty_only {m : Nat} (h10 : 10 ≤ m) : (emptyG m).only := by
 intro b
 rw [empty_tree]
 unfold WoodS.has
 constructor
 ·
  rintro ⟨h1, h2⟩
  have h3 := atB_lt h2
  have h4 : b.toNat < m := by have : (emptyG m).now.length = m := freshL_length m; omega
  have h5 : atB (freshL m) b.toNat = true := h2
  rw [freshL_at h4, decide_eq_true_eq] at h5
  left
  omega
 ·
  rintro (h1 | h1)
  ·
   refine ⟨h1.1, ?_⟩
   show atB (freshL m) b.toNat = true
   rw [freshL_at (by omega)]
   exact decide_eq_true (by omega)
  ·
   simp [TreeS.none] at h1
structure Grown (m : Nat) (G : WoodS) (P : List (ByteArray × ByteArray)) : Prop where
 right : G.right = true
 bad : G.tree.bad = false
 pairs : G.tree.pairs = P
 only : G.only
 base : G.base = freshL m
 len : G.now.length = m
theorem grown_empty {m : Nat} (h24 : 24 ≤ m) (h200 : m ≤ 200) : Grown m (emptyG m) [] :=
 ⟨empty_right h24 h200, by rw [empty_tree]; rfl, by rw [empty_tree]; rfl, empty_only (by omega), rfl, freshL_length m⟩
theorem grown_put {m : Nat} {G : WoodS} {P : List (ByteArray × ByteArray)} (g : Grown m G P) (h200 : m ≤ 200) (key val : ByteArray) :
  (isPairB key val = false ∧ (allR G [(key, val)]).1 = 1) ∨ isPairB key val = true ∧ (((allR G [(key, val)]).1 = 60 ∧ G.free < 9) ∨ ((allR G [(key, val)]).1 = 0 ∧ Grown m (allR G [(key, val)]).2 (withP P key val))) := by
 rcases put_answers g.right g.bad key val with ⟨h1, h2⟩ | ⟨h1, ⟨h2, h3⟩ | ⟨G', h2, h3, h4, h5, h6, h7⟩⟩
 ·
  left
  rw [h2]
  exact ⟨h1, rfl⟩
 ·
  right
  refine ⟨h1, .inl ?_⟩
  rw [h2]
  have := small_high g.bad (by rw [g.len]; omega)
  exact ⟨rfl, by omega⟩
 ·
  right
  refine ⟨h1, .inr ?_⟩
  rw [h2]
  exact ⟨rfl, h4, h5, by rw [h6, g.pairs], only_put g.only (fun b hb => ((tree_blocks g.bad).2 b hb).2.1) h7, by rw [h7.base, g.base], by rw [h7.len, g.len]⟩
theorem free_told {G : WoodS} (hr : G.right = true) : freeC G.base G.now = G.free := by
 unfold freeC WoodS.free
 rw [if_pos (right_ok.1 hr).1.alloc]
def withRest (put : Bool) (ps : List (ByteArray × ByteArray)) (k v : ByteArray) : List (ByteArray × ByteArray) := if put = true then ps.filter (fun q => decide (q.1 ≠ k)) else withP ps k v
theorem rest_lt {ps : List (ByteArray × ByteArray)} {j : Nat} {p : ByteArray × ByteArray} {k v : ByteArray} (hp : ps[j]? = some p) (h : ltB p.1 k = true) (put : Bool) : withRest put (ps.drop j) k v = p :: withRest put (ps.drop (j + 1)) k v := by
 obtain ⟨hl, e⟩ := List.getElem?_eq_some_iff.1 hp
 rw [List.drop_eq_getElem_cons hl, e]
 cases put with
 | true =>
  unfold withRest
  rw [if_pos rfl, if_pos rfl]
  rw [List.filter_cons, if_pos (by simpa using lt_ne h)]
 | false =>
  unfold withRest
  rw [if_neg (by decide), if_neg (by decide)]
  rw [withP, if_pos h]
theorem rest_ne {ps : List (ByteArray × ByteArray)} {j : Nat} {p : ByteArray × ByteArray} {k v : ByteArray} (hp : ps[j]? = some p) (h : p.1 ≠ k) : withRest true (ps.drop j) k v = p :: withRest true (ps.drop (j + 1)) k v := by
 obtain ⟨hl, e⟩ := List.getElem?_eq_some_iff.1 hp
 rw [List.drop_eq_getElem_cons hl, e]
 unfold withRest
 rw [if_pos rfl, if_pos rfl]
 rw [List.filter_cons, if_pos (by simpa using h)]
theorem rest_eq {ps : List (ByteArray × ByteArray)} {j : Nat} {p : ByteArray × ByteArray} {k v : ByteArray} (hp : ps[j]? = some p) (h : p.1 = k) : withRest true (ps.drop j) k v = withRest true (ps.drop (j + 1)) k v := by
 obtain ⟨hl, e⟩ := List.getElem?_eq_some_iff.1 hp
 rw [List.drop_eq_getElem_cons hl, e]
 unfold withRest
 rw [if_pos rfl, if_pos rfl]
 rw [List.filter_cons, if_neg (by simpa using h)]
theorem rest_put {ps : List (ByteArray × ByteArray)} {j : Nat} {p : ByteArray × ByteArray} {k v : ByteArray} (hp : ps[j]? = some p) (h : ltB p.1 k = false) : withRest false (ps.drop j) k v = (k, v) :: withRest true (ps.drop j) k v := by
 obtain ⟨hl, e⟩ := List.getElem?_eq_some_iff.1 hp
 rw [List.drop_eq_getElem_cons hl, e]
 unfold withRest
 rw [if_pos rfl, if_neg (by decide)]
 rw [withP, if_neg (by rw [h]; decide)]
theorem rest_end (ps : List (ByteArray × ByteArray)) (k v : ByteArray) (put : Bool) : withRest put (ps.drop ps.length) k v = if put = true then [] else [(k, v)] := by
 rw [List.drop_length]
 cases put <;> rfl
theorem owns_none9 (w : World) : (w.alloc (.cells #[] 50)).ownsRow w.heap.size 50 2 (.slice (some ⟨w.heap.size, 0, none⟩) 0 0) 0 (cellsQ []) := World.ownsRow_made w #[] 0 (Nat.le_refl _) (Nat.zero_le _) rfl
theorem withP_few (ps : List (ByteArray × ByteArray)) (k v : ByteArray) : (withP ps k v).length ≤ ps.length + 1 := by
 induction ps with
 | nil => simp [withP]
 | cons p ps ih =>
  rw [withP]
  split
  ·
   simp; omega
  ·
   have := List.length_filter_le (fun q : ByteArray × ByteArray => decide (q.1 ≠ k)) (p :: ps)
   simp only [List.length_cons] at this ⊢
   omega
set_option maxRecDepth 20000 in
set_option maxHeartbeats 4000000 in
theorem refWith_any (a : Option Addr) (c n : Nat) (ps : List (ByteArray × ByteArray)) (key val : ByteArray) (w : World) (hn : n = ps.length) (hQ : IsQ w a c ps) (hm : n ≤ 1000000000) (mk : key.size ≤ maxLen) (mv : val.size ≤ maxLen) :
  Calls Tryz.prog 19 #[.slice a n c, .string key, .string val] w fun e w' => ∃ a' k c', e = .returned (.slice a' k c') ∧ k = (withP ps key val).length ∧ IsQ w' a' c' (withP ps key val) ∧ From w.heap.size a' ∧ Below w.heap.size w w' := by
 have EN : Hid (n = ps.length) := hn
 have RQ : Hid (IsQ w a c ps) := hQ
 have hfew := withP_few ps key val
 have OK : Hid (∀ p ∈ withP ps key val, p.1.size ≤ maxLen ∧ p.2.size ≤ maxLen) := fun p hp => by
  rcases mem_with.1 hp with rfl | ⟨hp, _⟩
  ·
   exact ⟨mk, mv⟩
  ·
   obtain ⟨j, hj⟩ := List.mem_iff_getElem?.1 hp
   obtain ⟨_, _, _, _, _, _, h1, h2⟩ := hQ.2.2 j p hj
   exact ⟨h1, h2⟩
 rw [← hn] at hfew
 obtain ⟨R, hR⟩ : ∃ R, R = withP ps key val := ⟨_, rfl⟩
 have HR : Hid (R = withRest false (ps.drop 0) key val) := by show _ = _; rw [hR]; rfl
 rw [← hR] at hfew OK ⊢
 clear hn hQ hR
 go_enter Tryz.func19, Tryz.ntmps19
 go_wp2
 have hA := (Below.refl w.heap.size w).alloc (Nat.le_refl _) (.cells #[] 50)
 go_loopw [7, 8, 14] (fun ov pv v wr => ∃ (j q g cap : Nat) (put : Bool) (L : List (ByteArray × ByteArray)), j ≤ n ∧ v = .int .i64 j ∧ pv = .bool put ∧ ov = .slice (some ⟨g, 0, none⟩) q cap ∧ (R = L ++ withRest put (ps.drop j) key val ∧ q = L.length) ∧ wr.ownsRow w.heap.size 50 2 (.slice (some ⟨g, 0, none⟩) q cap) q (cellsQ L) ∧ Below w.heap.size w wr) (fun _ _ v _ => n - (intOf v).toNat)
 case atStart => exact ⟨0, 0, w.heap.size, 0, false, [], by omega, rfl, rfl, rfl, ⟨HR.out, rfl⟩, owns_none9 w, hA⟩
 case round =>
  clear hA
  obtain ⟨j, q, g, cap, put, L, hj, rfl, rfl, rfl, hL, hown, HB⟩ := hrel
  have HL : Hid (R = L ++ withRest put (ps.drop j) key val ∧ q = L.length) := hL
  have hq : q ≤ 1000000001 := by have e := congrArg List.length hL.1; rw [List.length_append] at e; omega
  clear hL
  by_cases hlt : j < n
  ·
   have hlt' : (j : Int) < n := by omega
   obtain ⟨⟨k, v⟩, hp⟩ : ∃ x, Hid (ps[j]? = some x) := get_some (by rw [← EN.out]; exact hlt)
   obtain ⟨b, o, rfl, -, hc0, hc1, -, -⟩ := RQ.out.2.2 j (k, v) hp.out
   have z0 := cell_below HB hc0
   have z1 := cell_below HB hc1
   clear hc0 hc1
   have HB1 := Below.tr HB ((Below.refl _ _).alloc (Nat.le_refl _) (.cells #[.string k, .string v] 50))
   have hown1 := hown.alloc (.cells #[.string k, .string v] 50)
   have hown0 := hown
   clear hown HB
   obtain ⟨W1, hW1⟩ : ∃ W1, W1 = wr.alloc (.cells #[.string k, .string v] 50) := ⟨_, rfl⟩
   have hWs : W1.heap.size = wr.heap.size + 1 := by rw [hW1]; simp
   rw [← hW1] at HB1 hown1
   obtain ⟨g2, cap2, U2, hrun2, hown2, hgr2, -, -, -⟩ := push_Q W1 w.heap.size (.slice (some ⟨g, 0, none⟩) q cap) q L (k, v) hown1 (by have := HB1.size; exact this) (by omega)
   have T2 : Turns (fun k => w.heap.size ≤ k) W1 U2 := ((Turns.refl _ _).alloc _).grown hgr2 (fun k hk => (hown1.lt k hk).1)
   have HB2 := Below.turns HB1 T2 (fun k hk => hk)
   have hfin2 : Hid (U2.ownsRow w.heap.size 50 2 (.slice (some ⟨g2, 0, none⟩) (q + 1) cap2) (q + 1) (cellsQ (L ++ [(k, v)])) ∧ Below w.heap.size w U2) := ⟨hown2, HB2⟩
   obtain ⟨g3, cap3, U3, hrun3, hown3, hgr3, -, -, -⟩ := push_Q W1 w.heap.size (.slice (some ⟨g, 0, none⟩) q cap) q L (key, val) hown1 (by have := HB1.size; exact this) (by omega)
   have T3 : Turns (fun k => w.heap.size ≤ k) W1 U3 := ((Turns.refl _ _).alloc _).grown hgr3 (fun k hk => (hown1.lt k hk).1)
   have HB3 := Below.turns HB1 T3 (fun k hk => hk)
   have hfin3 : Hid (U3.ownsRow w.heap.size 50 2 (.slice (some ⟨g3, 0, none⟩) (q + 1) cap3) (q + 1) (cellsQ (L ++ [(key, val)])) ∧ Below w.heap.size w U3) := ⟨hown3, HB3⟩
   have hfin1 : Hid (W1.ownsRow w.heap.size 50 2 (.slice (some ⟨g, 0, none⟩) q cap) q (cellsQ L) ∧ Below w.heap.size w W1) := ⟨hown1, HB1⟩
   have hgb : g < wr.heap.size := by have h1 := hown0.lt g rfl; omega
   have hbx : Hid (U3.cell? ⟨wr.heap.size, 0, none⟩ = some (.string k) ∧ U3.cell? ⟨wr.heap.size, 1, none⟩ = some (.string v)) := by
    obtain ⟨⟨p0, p1⟩, -⟩ := (box2_new wr (.string k) (.string v) 50 rfl).alloc (.cells #[.string key, .string val] 50)
    rw [← hW1] at p0 p1
    exact ⟨hgr3.cell p0 (fun e => by have := Option.some.inj e; simp only at this; omega), hgr3.cell p1 (fun e => by have := Option.some.inj e; simp only at this; omega)⟩
   obtain ⟨g4, cap4, U4, hrun4, hown4, hgr4, -, -, -⟩ := push_Q U3 w.heap.size (.slice (some ⟨g3, 0, none⟩) (q + 1) cap3) (q + 1) (L ++ [(key, val)]) (k, v) hown3 (by have := HB3.size; exact this) (by omega)
   have T4 : Turns (fun k => w.heap.size ≤ k) U3 U4 := ((Turns.refl _ _).alloc _).grown hgr4 (fun k hk => (hown3.lt k hk).1)
   have hfin4 : Hid (U4.ownsRow w.heap.size 50 2 (.slice (some ⟨g4, 0, none⟩) (q + 1 + 1) cap4) (q + 1 + 1) (cellsQ (L ++ [(key, val)] ++ [(k, v)])) ∧ Below w.heap.size w U4) := ⟨hown4, Below.turns HB3 T4 (fun k hk => hk)⟩
   clear hown1 hown2 hown3 hown4 hgr2 hgr3 hgr4 T2 T3 T4 HB1 HB2 HB3 hown0 hgb hWs
   subst hW1
   simp only [World.size_alloc] at hrun2 hrun3
   by_cases he : k = key
   ·
    subst he
    have s1 : Op.bytesLess k.toList k.toList = false := ltB_irrefl k
    have s2 := str_eq_true (rfl : k = k)
    cases put with
    | true =>
     have hN : Hid (R = L ++ withRest true (ps.drop (j + 1)) k val ∧ q = L.length) := ⟨by rw [HL.out.1, rest_eq hp.out rfl], HL.out.2⟩
     go_wp2
     go_roundw
     case rel => exact ⟨j + 1, q, g, cap, true, L, by omega, by go_num, rfl, rfl, hN.out, hfin1.out.1, hfin1.out.2⟩
     case measure => simp [intOf]; omega
    | false =>
     have hN : Hid (R = (L ++ [(k, val)]) ++ withRest true (ps.drop (j + 1)) k val ∧ q + 1 = (L ++ [(k, val)]).length) := ⟨by rw [HL.out.1, rest_put hp.out (ltB_irrefl k), rest_eq hp.out rfl, List.append_assoc]; rfl, by rw [List.length_append, ← HL.out.2]; rfl⟩
     obtain ⟨y0, y1⟩ := hbx.out
     go_wp2_with (at_builtin; refine Lib.wpList_append_run _ rfl _ _ _ _ rfl _ _ rfl rfl _ _ hrun3 ?_)
     go_roundw
     case rel => exact ⟨j + 1, q + 1, g3, cap3, true, L ++ [(k, val)], by omega, by go_num, rfl, rfl, hN.out, hfin3.out.1, hfin3.out.2⟩
     case measure => simp [intOf]; omega
   ·
    have s2 := str_eq_false he
    cases hl : ltB k key with
    | true =>
     have s1 : Op.bytesLess k.toList key.toList = true := hl
     have s3 : Op.bytesLess key.toList k.toList = false := ltB_asymm hl
     have hN : Hid (R = (L ++ [(k, v)]) ++ withRest put (ps.drop (j + 1)) key val ∧ q + 1 = (L ++ [(k, v)]).length) := ⟨by rw [HL.out.1, rest_lt hp.out hl, List.append_assoc]; rfl, by rw [List.length_append, ← HL.out.2]; rfl⟩
     clear hl he
     cases put with
     | true =>
      go_wp2_with (at_builtin; refine Lib.wpList_append_run _ rfl _ _ _ _ rfl _ _ rfl rfl _ _ hrun2 ?_)
      go_roundw
      case rel => exact ⟨j + 1, q + 1, g2, cap2, true, L ++ [(k, v)], by omega, by go_num, rfl, rfl, hN.out, hfin2.out.1, hfin2.out.2⟩
      case measure => simp [intOf]; omega
     | false =>
      go_wp2_with (at_builtin; refine Lib.wpList_append_run _ rfl _ _ _ _ rfl _ _ rfl rfl _ _ hrun2 ?_)
      go_roundw
      case rel => exact ⟨j + 1, q + 1, g2, cap2, false, L ++ [(k, v)], by omega, by go_num, rfl, rfl, hN.out, hfin2.out.1, hfin2.out.2⟩
      case measure => simp [intOf]; omega
    | false =>
     have s1 : Op.bytesLess k.toList key.toList = false := hl
     have s3 : Op.bytesLess key.toList k.toList = true := by
      cases h : Op.bytesLess key.toList k.toList with
      | true => rfl
      | false => exact absurd (ltB_total hl h) he
     cases put with
     | true =>
      have hN : Hid (R = (L ++ [(k, v)]) ++ withRest true (ps.drop (j + 1)) key val ∧ q + 1 = (L ++ [(k, v)]).length) := ⟨by rw [HL.out.1, rest_ne hp.out he, List.append_assoc]; rfl, by rw [List.length_append, ← HL.out.2]; rfl⟩
      clear hl he
      go_wp2_with (at_builtin; refine Lib.wpList_append_run _ rfl _ _ _ _ rfl _ _ rfl rfl _ _ hrun2 ?_)
      go_roundw
      case rel => exact ⟨j + 1, q + 1, g2, cap2, true, L ++ [(k, v)], by omega, by go_num, rfl, rfl, hN.out, hfin2.out.1, hfin2.out.2⟩
      case measure => simp [intOf]; omega
     | false =>
      have hN : Hid (R = (L ++ [(key, val)] ++ [(k, v)]) ++ withRest true (ps.drop (j + 1)) key val ∧ q + 1 + 1 = (L ++ [(key, val)] ++ [(k, v)]).length) := ⟨by rw [HL.out.1, rest_put hp.out hl, rest_ne hp.out he]; simp, by rw [List.length_append, List.length_append, ← HL.out.2]; rfl⟩
      obtain ⟨y0, y1⟩ := hbx.out
      clear hl he
      have tk : True := trivial
      go_wp2_with (first
       | (at_builtin; have _t := tk; refine Lib.wpList_append_run _ rfl _ _ _ _ rfl _ _ rfl rfl _ _ hrun3 ?_; clear tk)
       | (at_builtin; refine Lib.wpList_append_run _ rfl _ _ _ _ rfl _ _ rfl rfl _ _ hrun4 ?_))
      go_roundw
      case rel => exact ⟨j + 1, q + 1 + 1, g4, cap4, true, L ++ [(key, val)] ++ [(k, v)], by omega, by go_num, rfl, rfl, hN.out, hfin4.out.1, hfin4.out.2⟩
      case measure => simp [intOf]; omega
  ·
   obtain rfl : n = j := by omega
   have hj0 : ¬ (n : Int) < n := by omega
   cases put with
   | true =>
    have hR : Hid (R = L) := by show _ = _; rw [HL.out.1, EN.out, rest_end]; simp
    go_wp2
    go_ret
    obtain ⟨a', c', e, hI, hF⟩ := owned_isQ hown HL.out.2 (by rw [← hR.out]; exact OK.out)
    cases e
    exact ⟨_, q, _, rfl, by rw [hR.out]; exact HL.out.2, by rw [hR.out]; exact hI, hF, HB⟩
   | false =>
    have hR : Hid (R = L ++ [(key, val)]) := by show _ = _; rw [HL.out.1, EN.out, rest_end]; simp
    obtain ⟨g2, cap2, U2, hrun2, hown2, hgr2, -, -, -⟩ := push_Q wr w.heap.size (.slice (some ⟨g, 0, none⟩) q cap) q L (key, val) hown (by have := HB.size; exact this) (by omega)
    have T2 : Turns (fun k => w.heap.size ≤ k) wr U2 := ((Turns.refl _ _).alloc _).grown hgr2 (fun k hk => (hown.lt k hk).1)
    have HB2 := Below.turns HB T2 (fun k hk => hk)
    have hfin : Hid (U2.ownsRow w.heap.size 50 2 (.slice (some ⟨g2, 0, none⟩) (q + 1) cap2) (q + 1) (cellsQ (L ++ [(key, val)])) ∧ Below w.heap.size w U2) := ⟨hown2, HB2⟩
    clear hown HB HB2 T2 hown2 hgr2
    go_wp2_with (at_builtin; refine Lib.wpList_append_run _ rfl _ _ _ _ rfl _ _ rfl rfl _ _ hrun2 ?_)
    go_ret
    obtain ⟨a', c', e, hI, hF⟩ := owned_isQ hfin.out.1 (by rw [List.length_append, ← HL.out.2]; rfl) (by rw [← hR.out]; exact OK.out)
    cases e
    exact ⟨_, q + 1, _, rfl, by rw [hR.out, List.length_append, ← HL.out.2]; rfl, by rw [hR.out]; exact hI, hF, hfin.out.2⟩
end Go.Proofs.YtaecfbfcjaailaaGreat
namespace Go.Proofs.YtaecfbfcjaailaaGreat
open Go.RowKit Plain Go.ChangeShapes Go.WideShapes
set_option linter.unusedVariables false
set_option maxRecDepth 20000 in
theorem open_pairs {H : Type} {enc : TypeId × Value → H} {w : World} {r : Reach} {b0 : Nat} {v : Value} {d : DataW H} {p : List MemPlace}
  (hv : Value.okWide Tryz.prog w r b0 37 v) (h : DataW.Trod enc Tryz.prog w 0 (fun _ => true) true 37 v d p) :
  ∃ a c xs, v = .slice a xs.length c ∧ IsQ w a c xs := by
 obtain ⟨a, len, cap, rfl⟩ := okWide_slice Tryz.underlying37 hv
 obtain ⟨fuel, hf⟩ := h
 have hf' : DataW.trod enc Tryz.prog w 0 (fun _ => true) true fuel 37 [.slice a len cap] = some (d, p) := by simpa [Value.cells] using hf
 rcases Deep.open_slice_pairs Tryz.underlying37 Tryz.underlying50 (by kernel_rfl) rfl rfl (by kernel_rfl) (by kernel_rfl) hf' with ⟨hcs, _⟩ | ⟨a, l, c, m, n, V0, V1, D0, D1, P0, P1, hcs, _, hl, hm, hmm, _, hcell⟩
 ·
  simp at hcs
  obtain ⟨rfl, rfl, rfl⟩ := hcs
  exact ⟨none, 0, [], rfl, isQ_nil _⟩
 ·
  simp at hcs
  obtain ⟨rfl, rfl, rfl⟩ := hcs
  simp at hmm
  have each : ∀ i, i < m → ∃ p : ByteArray × ByteArray, w.cell? (a.add (i * 2)) = some (.string p.1) ∧ w.cell? (a.add (i * 2 + 1)) = some (.string p.2) ∧ p.1.size ≤ maxLen ∧ p.2.size ≤ maxLen := by
   intro i hi
   obtain ⟨h0, h1, g0, g1⟩ := hcell i hi
   obtain ⟨k, hk, _, hkw⟩ := DataW.trod_string Tryz.underlying9 g0
   obtain ⟨s, hs, _, hss⟩ := DataW.trod_string Tryz.underlying9 g1
   simp at hk hs
   rw [hk] at h0
   rw [hs] at h1
   exact ⟨(k, s), h0, h1, hkw, hss⟩
  obtain ⟨q, hq⟩ := Deep.choose_lt each
  refine ⟨some a, cap, (List.range len).map q, by simp, by simpa using hl, hm, fun j p hp => ?_⟩
  have hj : j < len := by simpa using (List.getElem?_eq_some_iff.1 hp).1
  rw [List.getElem?_map, List.getElem?_range hj] at hp
  obtain rfl : q j = p := Option.some.inj hp
  obtain ⟨h0, h1, h2⟩ := hq j (by omega)
  obtain ⟨b, o, rfl, hb⟩ := spot_none (hq 0 (by omega)).1
  rw [at_add] at h0 h1
  exact ⟨b, o, rfl, hb, h0, by rw [Nat.add_assoc]; exact h1, h2⟩
end Go.Proofs.YtaecfbfcjaailaaGreat
namespace Go.Proofs.YtaecfbfcjaailaaGreat
open Go.RowKit Plain
set_option linter.unusedVariables false
def PutF (w : World) (e : Ending) (w' : World) (R : Int × WoodS) : Prop :=
 ∃ b1 m1 c1 b2 m2 c2 b3 m3 c3, e = .returned (.tuple #[.agg #[.slice b1 m1 c1, .slice b2 m2 c2, .slice b3 m3 c3, .int .i64 R.2.root, .int .i64 R.2.gen], .int .i64 R.1]) ∧ WoodL w' b1 m1 c1 b2 m2 c2 b3 m3 c3 R.2 ∧ (From w.heap.size b1 ∧ From w.heap.size b2 ∧ From w.heap.size b3) ∧ Below w.heap.size w w'
theorem WoodL.putF {V : World} {a : Option Addr} {n c : Nat} {a' : Option Addr} {n' c' : Nat} {b : Option Addr} {p f : Nat} {G : WoodS} (x : WoodL V a n c a' n' c' b p f G) (key val : ByteArray) (mk : key.size ≤ maxLen) (mv : val.size ≤ maxLen) : Calls Tryz.prog 11 #[.agg #[.slice a n c, .slice a' n' c', .slice b p f, .int .i64 G.root, .int .i64 G.gen], .string key, .string val] V fun e w' => PutF V e w' (allR G [(key, val)]) := by
 obtain ⟨rfl, rfl, rfl, hB, hB', hP⟩ := x
 refine (growPut1_any a a' b c c' f G key val V hB hB' hP mk mv).mono ?_
 rintro e w' ⟨a1, c1, a2, c2, b3, c3, rfl, ⟨i1, i2, i3⟩, hf, hb⟩
 exact ⟨a1, _, c1, a2, _, c2, b3, _, c3, rfl, ⟨rfl, rfl, rfl, i1, i2, i3⟩, hf, hb⟩
def Off3 (h : Nat) (a b c : Option Addr) : Prop := (∀ x, a = some x → x.block ≠ h) ∧ (∀ x, b = some x → x.block ≠ h) ∧ (∀ x, c = some x → x.block ≠ h)
theorem WoodL.turns1 {V V' : World} {a : Option Addr} {n c : Nat} {a' : Option Addr} {n' c' : Nat} {b : Option Addr} {p f h : Nat} {G : WoodS} (x : WoodL V a n c a' n' c' b p f G) (t : Turns (fun k => k = h) V V') (o : Off3 h a a' b) : WoodL V' a n c a' n' c' b p f G :=
 ⟨x.1, x.2.1, x.2.2.1, x.2.2.2.1.turns t o.1, x.2.2.2.2.1.turns t o.2.1, x.2.2.2.2.2.turns t o.2.2⟩
theorem WoodL.off {V : World} {a : Option Addr} {n c : Nat} {a' : Option Addr} {n' c' : Nat} {b : Option Addr} {p f h : Nat} {G : WoodS} (x : WoodL V a n c a' n' c' b p f G) (hr : G.right = true) (hh : V.heap.size ≤ h) : Off3 h a a' b := by
 obtain ⟨hok, -⟩ := right_ok.1 hr
 obtain ⟨hl, h24, h4k, -⟩ := (rightA_iff _ _).1 hok.alloc
 have hpl := hok.len
 obtain ⟨_, _, _, i1, i2, i3⟩ := x
 refine ⟨fun y hy => ?_, fun y hy => ?_, fun y hy => ?_⟩
 ·
  obtain ⟨g, o, e, hlt, _⟩ := i1.2.2 0 _ (List.getElem?_eq_getElem (by omega))
  rw [e] at hy; cases hy; simp only; omega
 ·
  obtain ⟨g, o, e, hlt, _⟩ := i2.2.2 0 _ (List.getElem?_eq_getElem (by omega))
  rw [e] at hy; cases hy; simp only; omega
 ·
  obtain ⟨g, o, e, hlt, _⟩ := i3.2.2 0 _ (List.getElem?_eq_getElem (by omega))
  rw [e] at hy; cases hy; simp only; omega
def TreeD (V : World) (y : Ending) (w' : World) (t : TreeS) : Prop :=
 ∃ z q d r k, y = .returned (.pointer (some ⟨z, 0, none⟩)) ∧ Box4 w' z (.slice q t.pairs.length d) (.slice r t.blocks.length k) (.int .i64 t.height) (.bool t.bad) ∧ V.heap.size ≤ z ∧ (IsQ w' q d t.pairs ∧ IsI w' r k t.blocks) ∧ Below V.heap.size V w'
theorem TreeC.wide {V : World} {y : Ending} {w' : World} {t : TreeS} (h : TreeC V y w' t) : TreeD V y w' t := by
 obtain ⟨q, d, r, k, h1, h2, h3, h4⟩ := h
 exact ⟨_, q, d, r, k, h1, h2, by omega, h3, h4⟩
theorem WoodL.treeD {V : World} {a : Option Addr} {n c : Nat} {a' : Option Addr} {n' c' : Nat} {b : Option Addr} {p f : Nat} {G : WoodS} (x : WoodL V a n c a' n' c' b p f G) : Calls Tryz.prog 15 #[.agg #[.slice a n c, .slice a' n' c', .slice b p f, .int .i64 G.root, .int .i64 G.gen]] V fun y w' => TreeD V y w' G.tree :=
 x.tree.mono fun y w' h => h.wide
end Go.Proofs.YtaecfbfcjaailaaGreat
