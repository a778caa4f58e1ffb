/-
  Texts laid together: Core WaitPlain TaskPlain RunPlain DagMem RunSettle RunNewW RunTold RunEndsP RunTellP TaskLease RunLease RunCancelBad RunTwoP RunTells RunKeeps RunLeaseW RunTwoQ RunEndsQ.
-/
import Derived.Test.YtdpljpjbomhccaaRows
import Derived.Test.YtdpljpjbomhccaaRtF
import Derived.WalkSpells
import Derived.WalkLawsBesides
import Derived.Handy
import Derived.Deep.OwnRows
import Derived.Deep.AppendLies
import Derived.Lib.SmallJoins
import Derived.Lib.SliceRun
import Derived.Lib.AppendZeros
import Derived.Deep.SlicePairs
import Derived.Deep.Strs
import Derived.Maps.RangeWalk
namespace Go.Proofs.Ytdpljpjbomhccaa
open Go.RowKit Plain Go.ChangeShapes Go.WideShapes
set_option linter.unusedVariables false
set_option maxRecDepth 20000 in
theorem open_nums {H : Type} {enc : TypeId × Value → H} {w : World} {r : Reach} {b0 : Nat} {v : Value} {d : DataW H} {p : List MemPlace}
  (hv : Value.okWide Try.prog w r b0 48 v) (h : DataW.Trod enc Try.prog w 0 (fun _ => true) true 48 v d p) :
  ∃ a c ms, v = .slice a ms.length c ∧ IsI w a c ms := by
 obtain ⟨a, len, cap, rfl⟩ := okWide_slice Try.underlying48 hv
 obtain ⟨fuel, hf⟩ := h
 exact open_I (by simpa [Value.cells] using hf)
end Go.Proofs.Ytdpljpjbomhccaa
namespace Go.Proofs.Ytdpljpjbomhccaa.Plain
open Go.RowKit
theorem afterF_nn (w n : Int) : 0 ≤ afterF w n ∧ afterF w n ≤ 1048576 := by
 unfold afterF
 split
 ·
  omega
 ·
  rename_i h
  have := aftK_pos (w := w) (by omega) (n - 1).toNat
  have := aftK_le w (n - 1).toNat
  omega
end Go.Proofs.Ytdpljpjbomhccaa.Plain
namespace Go.Proofs.Ytdpljpjbomhccaa.Plain
open Go.RowKit
set_option linter.unusedVariables false
def leaseE (s : StP) (now k : Int) : Int := if 1 ≤ k ∧ k ≤ 1099511627776 then (if s.i = 1 ∧ s.d ≤ untF now [] then 0 else 192) else 1
def leaseT (le : Int) (s : StP) (now k : Int) : StP := if leaseE s now k = 0 then ⟨2, wrap64 (s.t + 1), untF now [le], k, s.r⟩ else zeroT
theorem unt_wrap {s : StP} (h : standT s = true) : wrap64 (s.t + 1) = s.t + 1 := by
 have := ((standT_iff s).1 h).2.1
 unfold wrap64
 omega
theorem right_lease {tr le now k : Int} {s : StP} (h8 : tr ≤ 8) (h : rightT tr s = true) (h0 : leaseE s now k = 0) : rightT tr (leaseT le s now k) = true ∧ (leaseT le s now k).t = s.t + 1 ∧ s.i = 1 := by
 obtain ⟨a, b⟩ := right_parts h
 rw [leaseT, if_pos h0, unt_wrap a]
 unfold leaseE at h0
 split at h0
 ·
  rename_i hk
  split at h0
  ·
   rename_i hi
   obtain ⟨h1, h2, h3, h4, h5, h6, h7⟩ := (standT_iff s).1 a
   obtain ⟨g1, g2, g3, g4, g5, g6⟩ := (restT_iff tr s).1 b
   have g3' := g3 hi.1
   have ub := untF_bound now [le]
   have h7' := h7 (by omega)
   refine ⟨right_of ?_ ?_ ?_ ?_ ?_ ?_ ?_ ?_ ?_ ?_ ?_ ?_ ?_, rfl, hi.1⟩ <;> first
    | exact h6
    | exact fun _ => h7'
    | (simp; done)
    | (simp; omega)
    | (simp only []; omega)
  ·
   cases h0
 ·
  cases h0
theorem right_done {tr : Int} {x : ByteArray} {s : StP} (h : rightT tr s = true) (h0 : s.i = 2) (hx : x.size ≤ 16) : rightT tr (doneT s x) = true ∧ (doneT s x).t = s.t := by
 obtain ⟨a, b⟩ := right_parts h
 rw [doneT, if_pos h0, if_pos hx]
 obtain ⟨h1, h2, h3, h4, h5, h6, h7⟩ := (standT_iff s).1 a
 obtain ⟨g1, g2, g3, g4, g5, g6⟩ := (restT_iff tr s).1 b
 have g4' := g4 (.inl h0)
 refine ⟨right_of ?_ ?_ ?_ ?_ ?_ ?_ ?_ ?_ ?_ ?_ ?_ ?_ ?_, rfl⟩ <;> first
  | exact hx
  | exact fun hn => absurd rfl hn
  | (simp; done)
  | (simp; omega)
  | (simp only []; omega)
theorem OverAt.later {ss : List StP} {u v : Int} {i : Nat} (h : OverAt ss u i) (huv : u ≤ v) : OverAt ss v i := by
 obtain ⟨s, hs, a, b, c⟩ := h
 refine ⟨s, hs, a, by omega, fun j w hw h2 hd => ?_⟩
 by_cases hu : w.d ≤ u
 ·
  exact c j w hw h2 hu
 ·
  omega
end Go.Proofs.Ytdpljpjbomhccaa.Plain
namespace Go.Proofs.Ytdpljpjbomhccaa
open Go.RowKit Plain Go.ChangeShapes Go.WideShapes
set_option linter.unusedVariables false
set_option maxRecDepth 20000 in
theorem open_dag {H : Type} {enc : TypeId × Value → H} {w : World} {r : Reach} {b0 : Nat} {v : Value} {d : DataW H} {p : List MemPlace}
  (hv : Value.okWide Try.prog w r b0 24 v) (h : DataW.Trod enc Try.prog w 0 (fun _ => true) true 24 v d p) :
  ∃ s a c ts, v = .agg #[.string s, .slice a ts.length c] ∧ s.size ≤ maxLen ∧ IsT w a c ts := by
 obtain ⟨v0, v1, y0, y1, n, rfl, _, _, h0, h1⟩ := Joins.open_agg2 Try.underlying24 (by kernel_rfl) (by kernel_rfl) hv h
 obtain ⟨s, e0, _, s0⟩ := DataW.trod_string Try.underlying9 h0
 obtain ⟨a, c, ts, rfl, hT⟩ := open_T h1
 simp at e0
 subst e0
 exact ⟨s, a, c, ts, rfl, s0, hT⟩
end Go.Proofs.Ytdpljpjbomhccaa
namespace Go.Proofs.Ytdpljpjbomhccaa.Plain
open Go.RowKit
set_option linter.unusedVariables false
theorem overN_none {ss : List StP} {u : Int} (h : overN ss u = none) {j : Nat} {v : StP} (hv : ss[j]? = some v) : ¬ (v.i = 2 ∧ v.d ≤ u) := by
 have := overTo_fold ss u ss.length
 rw [← overN_fold, h] at this
 exact this j v (List.getElem?_eq_some_iff.1 hv).1 hv
theorem settle_over {ts : List TaskP} {u : Int} {x : List StP × Int} (h : RightS ts x.1 x.2) (h0 : x.2 ≠ 0) : settleS ts u x = x := by
 refine settle_fix ?_
 cases hx : overN x.1 u with
 | none => rfl
 | some i =>
  obtain ⟨s, hs, h2, -, -⟩ := overN_some hx
  exact absurd (open_goes h.fits (held_open hs (.inr (.inr h2)))) h0
end Go.Proofs.Ytdpljpjbomhccaa.Plain
namespace Go.Proofs.Ytdpljpjbomhccaa
open Go.RowKit Plain Anylast
set_option linter.unusedVariables false
set_option maxRecDepth 20000 in
set_option maxHeartbeats 4000000 in
theorem newBad_any (ky nm : ByteArray) (ta : Option Addr) (tn tc : Nat) (tv : List TaskV) (w : World) (hkm : ky.size ≤ maxLen) (hT : IsT w ta tc tv) (htn : tn = tv.length) (E : Int) (hE : E = if 1 ≤ ky.size ∧ ky.size ≤ 16 then rightG nm (plainT tv) else 1) (hE0 : E ≠ 0) :
  Calls Try.prog 10 #[.string ky, .agg #[.string nm, .slice ta tn tc]] w fun e w' => e = .returned (.tuple #[.agg #[.string ⟨#[]⟩, .string ⟨#[]⟩, .slice none 0 0, .int .i64 0, .slice none 0 0], .int .i64 E]) ∧ Below w.heap.size w w' := by
 obtain ⟨W0, hW0⟩ : ∃ W0, W0 = (w.alloc (.cells #[.string nm, .slice ta tn tc] 24)).alloc (.cells #[.string ⟨#[]⟩, .string ⟨#[]⟩, .slice none 0 0, .int .i64 0, .slice none 0 0] 27) := ⟨_, rfl⟩
 have hB0 : Below w.heap.size w W0 := by rw [hW0]; exact bel2 w _ _
 have BX : BoxL W0 w.heap.size [.string nm, .slice ta tn tc] := by rw [hW0]; exact (boxL_new w [.string nm, .slice ta tn tc] _ rfl).alloc _
 have BY : BoxL W0 (w.heap.size + 1) [.string ⟨#[]⟩, .string ⟨#[]⟩, .slice none 0 0, .int .i64 0, .slice none 0 0] := by rw [hW0]; exact boxL_new _ [.string ⟨#[]⟩, .string ⟨#[]⟩, .slice none 0 0, .int .i64 0, .slice none 0 0] _ (by simp)
 have cK := isKey_any ky W0 hkm
 by_cases hk : 1 ≤ ky.size ∧ ky.size ≤ 16
 ·
  rw [decide_eq_true hk] at cK
  rw [if_pos hk] at hE
  have cD := right16_any nm ta tc tn tv W0 htn (hT.below hB0)
  rw [← hE] at cD
  have hE1 : (E != 0) = true := by simpa using hE0
  clear hT htn hE hk
  have f0 := BX.1 0 _ rfl
  have f1 := BX.1 1 _ rfl
  go_enter Try.func10, Try.ntmps10
  rw [hW0] at f0 f1
  go_wp2_with (first
   | (go_at_call 28; rw [← hW0]; refine cK.mono ?_; rintro e w1 ⟨rfl, rfl⟩; clear f0 f1; have f0 := BX.1 0 _ rfl; have f1 := BX.1 1 _ rfl)
   | (go_at_call 29; rw [← hW0]; refine cD.mono ?_; rintro e w2 ⟨rfl, hb⟩; have BY1 := BY.below hb; have hB := Below.tr hB0 hb; have v0 := BY1.1 0 _ rfl; have v1 := BY1.1 1 _ rfl; have v2 := BY1.1 2 _ rfl; have v3 := BY1.1 3 _ rfl; have v4 := BY1.1 4 _ rfl; have d0 := BY1.2 0 (by simp); have d1 := BY1.2 1 (by simp); have d2 := BY1.2 2 (by simp); have d3 := BY1.2 3 (by simp); have d4 := BY1.2 4 (by simp)))
  obtain ⟨Z, hZ⟩ : ∃ Z, Z = (((((w2.setCell ⟨w.heap.size + 1, 0, none⟩ (.string ⟨#[]⟩)).setCell ⟨w.heap.size + 1, 1, none⟩ (.string ⟨#[]⟩)).setCell ⟨w.heap.size + 1, 2, none⟩ (.slice none 0 0)).setCell ⟨w.heap.size + 1, 3, none⟩ (.int .i64 0)).setCell ⟨w.heap.size + 1, 4, none⟩ (.slice none 0 0)) := ⟨_, rfl⟩
  have BZ : BoxL Z (w.heap.size + 1) [.string ⟨#[]⟩, .string ⟨#[]⟩, .slice none 0 0, .int .i64 0, .slice none 0 0] := by rw [hZ]; exact boxL_set5 BY1 _ _ _ _ _
  have hBZ : Below w.heap.size w Z := by rw [hZ]; exact below_setT hB (Nat.le_succ _) _ _ _ _ _
  rw [← hZ]
  have r0 := BZ.1 0 _ rfl; have r1 := BZ.1 1 _ rfl; have r2 := BZ.1 2 _ rfl; have r3 := BZ.1 3 _ rfl; have r4 := BZ.1 4 _ rfl
  exact bodyPost_ret (v := .tuple #[.agg #[.string ⟨#[]⟩, .string ⟨#[]⟩, .slice none 0 0, .int .i64 0, .slice none 0 0], .int .i64 E]) (by simp [results, Try.results10, go_sem, r0, r1, r2, r3, r4]) rfl ⟨rfl, hBZ⟩
 ·
  rw [decide_eq_false hk] at cK
  rw [if_neg hk] at hE
  subst hE
  clear hT htn hk
  go_enter Try.func10, Try.ntmps10
  go_wp2_with (first
   | (go_at_call 28; rw [← hW0]; refine cK.mono ?_; rintro e w1 ⟨rfl, rfl⟩; have v0 := BY.1 0 _ rfl; have v1 := BY.1 1 _ rfl; have v2 := BY.1 2 _ rfl; have v3 := BY.1 3 _ rfl; have v4 := BY.1 4 _ rfl; have d0 := BY.2 0 (by simp); have d1 := BY.2 1 (by simp); have d2 := BY.2 2 (by simp); have d3 := BY.2 3 (by simp); have d4 := BY.2 4 (by simp)))
  try rw [← hW0]
  have r0 := BY.1 0 _ rfl; have r1 := BY.1 1 _ rfl; have r2 := BY.1 2 _ rfl; have r3 := BY.1 3 _ rfl; have r4 := BY.1 4 _ rfl
  exact bodyPost_ret (v := .tuple #[.agg #[.string ⟨#[]⟩, .string ⟨#[]⟩, .slice none 0 0, .int .i64 0, .slice none 0 0], .int .i64 1]) (by simp [results, Try.results10, go_sem, r0, r1, r2, r3, r4]) rfl ⟨rfl, hB0⟩
end Go.Proofs.Ytdpljpjbomhccaa
namespace Go.Proofs.Ytdpljpjbomhccaa
open Go.RowKit Plain
set_option linter.unusedVariables false
theorem ToldW.u {w w' : World} {E : Int} {ky nm : ByteArray} {is : Int} {fs : List TaskP} {zs : List StP} {e : Ending} (h : ToldW w E ky nm is fs zs e w') : ToldU w E ky nm is fs zs e w' := by
 obtain ⟨xk, xn, xa, xm, xc, xi, xs, xq, xsc, xt, xz, h1, h2, h3⟩ := h
 exact ⟨xk, xn, xa, xm, xc, xi, xs, xq, xsc, xt, xz, h1, h2 _ (Turns.refl _ _), h3⟩
theorem newU_any (ky nm : ByteArray) (ta : Option Addr) (n tc : Nat) (tv : List TaskV) (w : World) (hkm : ky.size ≤ maxLen) (hT : IsT w ta tc tv) (htn : n = tv.length) (E : Int) (hE : E = if 1 ≤ ky.size ∧ ky.size ≤ 16 then rightG nm (plainT tv) else 1) :
  Calls Try.prog 10 #[.string ky, .agg #[.string nm, .slice ta n tc]] w fun e w' => ToldU w E ky nm (mendS (plainT tv) (zerosS tv.length) 0).2 (plainT tv) (mendS (plainT tv) (zerosS tv.length) 0).1 e w' := by
 by_cases h0 : E = 0
 ·
  have hk : 1 ≤ ky.size ∧ ky.size ≤ 16 := by
   by_cases hk : 1 ≤ ky.size ∧ ky.size ≤ 16
   ·
    exact hk
   ·
    rw [if_neg hk] at hE; omega
  rw [if_pos hk] at hE
  refine (new_any ky nm ta n tc tv w hkm hT htn hk (by rw [← hE]; exact h0)).mono ?_
  rintro e w' ⟨g, h, m, cap, capS, tw, rfl, htw, hO, hb⟩
  exact ⟨_, _, _, _, _, _, _, _, _, tw, _, by rw [h0], ⟨hO.hT, hO.htn, hO.row.isZ, hO.hn⟩, fun _ => ⟨rfl, rfl, rfl, htw, rfl⟩, fun h => absurd h0 h, hb⟩
 ·
  exact (newBad_any ky nm ta n tc tv w hkm hT htn E hE h0).mono fun e w' h => toldU_zero h0 h
end Go.Proofs.Ytdpljpjbomhccaa
namespace Go.Proofs.Ytdpljpjbomhccaa.Plain
open Go.RowKit
set_option linter.unusedVariables false
def sumT : List StP → Int
 | [] => 0
 | s :: ss => s.t + sumT ss
def mostT : List TaskP → Int
 | [] => 0
 | t :: ts => t.tries + mostT ts
theorem sumT_set {ss : List StP} {i : Nat} {s : StP} (h : ss[i]? = some s) (x : StP) : sumT (ss.set i x) = sumT ss - s.t + x.t := by
 induction ss generalizing i with
 | nil => simp at h
 | cons y ys ih =>
  cases i with
  | zero => simp at h; subst h; simp [sumT]; omega
  | succ i => simp at h; have := ih h; simp [sumT, this]; omega
theorem sumT_same : ∀ (a b : List StP), a.length = b.length → (∀ (i : Nat) x y, a[i]? = some x → b[i]? = some y → x.t = y.t) → sumT a = sumT b
 | [], [], _, _ => rfl
 | [], _ :: _, h, _ => by simp at h
 | _ :: _, [], h, _ => by simp at h
 | x :: a, y :: b, h, k => by
  have h0 := k 0 x y rfl rfl
  have := sumT_same a b (by simpa using h) fun i u v hu hv => k (i + 1) u v (by simpa using hu) (by simpa using hv)
  simp [sumT, h0, this]
theorem ready_t (s : StP) : (readyT s).t = s.t := by unfold readyT; split <;> rfl
theorem cancel_t (s : StP) : (cancelT s).t = s.t := by unfold cancelT; split <;> rfl
theorem mend_sum (ts : List TaskP) (ss : List StP) (is : Int) : sumT (mendS ts ss is).1 = sumT ss := by
 unfold mendS
 split
 ·
  refine sumT_same _ _ (List.length_map _) fun i x y hx hy => ?_
  rw [List.getElem?_map, hy] at hx
  obtain rfl := Option.some.inj hx
  exact cancel_t y
 ·
  refine sumT_same _ _ List.length_mapIdx fun i x y hx hy => ?_
  rw [List.getElem?_mapIdx, hy] at hx
  obtain rfl := Option.some.inj hx
  show (if readyI ts ss i = true then readyT y else y).t = y.t
  split
  ·
   exact ready_t y
  ·
   rfl
theorem sum_most : ∀ (ss : List StP) (ts : List TaskP), ss.length = ts.length → (∀ (i : Nat) s t, ss[i]? = some s → ts[i]? = some t → s.t ≤ t.tries) → sumT ss ≤ mostT ts ∧ (sumT ss = mostT ts → ∀ (i : Nat) s t, ss[i]? = some s → ts[i]? = some t → s.t = t.tries)
 | [], [], _, _ => ⟨Int.le_refl _, fun _ i s t h => by simp at h⟩
 | [], _ :: _, h, _ => by simp at h
 | _ :: _, [], h, _ => by simp at h
 | x :: a, y :: b, h, k => by
  have h0 := k 0 x y rfl rfl
  obtain ⟨h1, h2⟩ := sum_most a b (by simpa using h) fun i u v hu hv => k (i + 1) u v (by simpa using hu) (by simpa using hv)
  refine ⟨by simp [sumT, mostT]; omega, fun e i s t hs ht => ?_⟩
  simp only [sumT, mostT] at e
  cases i with
  | zero => simp at hs ht; subst hs ht; omega
  | succ i => simp at hs ht; exact h2 (by omega) i s t hs ht
theorem due_some {ts : List TaskP} {ss : List StP} (ha : Acyclic ts) (hi : Inside ts) (h : RightS ts ss 0) (h2 : hasK ss 2 = false) : ∃ (i : Nat) (s : StP), ss[i]? = some s ∧ s.i = 1 := by
 obtain ⟨ho, g4, g5⟩ := goes_parts h.fits
 have hkind : ∀ (i : Nat) s, ss[i]? = some s → 0 ≤ s.i ∧ s.i ≤ 5 := fun i s hs => by
  obtain ⟨t, ht⟩ := h.task hs
  exact right_kind (h.each i s t hs ht).right
 have hex : ∃ i, i < ts.length ∧ (decide (isAt ss i = 3)) = false := by
  unfold openS at ho
  have hh : ∃ k : Int, (k = 0 ∨ k = 1 ∨ k = 2) ∧ hasK ss k = true := by
   rw [Bool.or_eq_true, Bool.or_eq_true] at ho
   rcases ho with (e | e) | e
   ·
    exact ⟨0, by omega, e⟩
   ·
    exact ⟨1, by omega, e⟩
   ·
    exact ⟨2, by omega, e⟩
  obtain ⟨k, hk, hh⟩ := hh
  obtain ⟨i, s, hs, he⟩ := (hasK_iff ss k).1 hh
  refine ⟨i, by rw [← h.len]; exact (List.getElem?_eq_some_iff.1 hs).1, ?_⟩
  rw [decide_eq_false_iff_not, isAt_some hs]
  omega
 obtain ⟨i, hl, hd, hn⟩ := one_free ha hi (fun x => decide (isAt ss x = 3)) hex
 have hl' : i < ss.length := by rw [h.len]; exact hl
 have hs := List.getElem?_eq_getElem hl'
 obtain ⟨t, ht⟩ := h.task hs
 have hr : readyI ts ss i = true := by
  unfold readyI
  rw [List.all_eq_true]
  exact hn
 refine ⟨i, _, hs, ?_⟩
 have k0 := hkind i _ hs
 have k2 := hasK_not h2 hs
 have k4 := hasK_not g4 hs
 have k5 := hasK_not g5 hs
 rw [decide_eq_false_iff_not, isAt_some hs] at hd
 have k1 : ss[i].i ≠ 0 := fun e => by
  have := (h.each i _ t hs ht).waits e
  rw [hr] at this
  cases this
 omega
theorem most_over {ts : List TaskP} {ss : List StP} {is : Int} (ha : Acyclic ts) (hi : Inside ts) (h : RightS ts ss is) (h2 : hasK ss 2 = false) (hm : mostT ts ≤ sumT ss) : is ≠ 0 := by
 rintro rfl
 obtain ⟨i, s, hs, h1⟩ := due_some ha hi h h2
 obtain ⟨t, ht⟩ := h.task hs
 have hle := sum_most ss ts h.len fun j u v hu hv => ((restT_iff _ _).1 (right_parts (h.each j u v hu hv).right).2).1
 have he := hle.2 (by omega) i s t hs ht
 have := ((restT_iff _ _).1 (right_parts (h.each i s t hs ht).right).2).2.2.1 h1
 omega
theorem lease_right {ts : List TaskP} {ss : List StP} (h8 : ∀ (i : Nat) t, ts[i]? = some t → t.tries ≤ 8) (h : RightS ts ss 0) {i : Nat} {s : StP} {t : TaskP} (hs : ss[i]? = some s) (ht : ts[i]? = some t) {now k : Int} (h0 : leaseE s now k = 0) (hk : ∀ (j : Nat) (u : StP), ss[j]? = some u → u.k ≠ k) :
  RightS ts (ss.set i (leaseT t.lease s now k)) 0 ∧ sumT (ss.set i (leaseT t.lease s now k)) = sumT ss + 1 ∧ (leaseT t.lease s now k).i = 2 ∧ (leaseT t.lease s now k).k = k ∧ s.i = 1 := by
 obtain ⟨hr, htt, hi1⟩ := right_lease (le := t.lease) (h8 i t ht) (h.each i s t hs ht).right h0
 have hx : (leaseT t.lease s now k).i = 2 ∧ (leaseT t.lease s now k).k = k := by rw [leaseT, if_pos h0]; exact ⟨rfl, rfl⟩
 generalize leaseT t.lease s now k = x at *
 have hl := (List.getElem?_eq_some_iff.1 hs).1
 have hdone : ∀ y, isAt ss y = 3 ↔ isAt (ss.set i x) y = 3 := fun y => by
  rw [isAt_set]
  split
  ·
   rename_i hc
   obtain ⟨rfl, -⟩ := hc
   rw [isAt_some hs]
   omega
  ·
   rfl
 obtain ⟨ho, g4, g5⟩ := goes_parts h.fits
 have hat : ∀ {j : Nat} {v : StP}, (ss.set i x)[j]? = some v → (j = i ∧ v = x) ∨ (j ≠ i ∧ ss[j]? = some v) := fun {j v} hv => by
  rw [List.getElem?_set] at hv
  by_cases e : i = j
  ·
   subst e
   rw [if_pos rfl, if_pos hl] at hv
   exact .inl ⟨rfl, (Option.some.inj hv).symm⟩
  ·
   rw [if_neg e] at hv
   exact .inr ⟨fun hh => e hh.symm, hv⟩
 have hself : (ss.set i x)[i]? = some x := by rw [List.getElem?_set, if_pos rfl, if_pos hl]
 have hno : ∀ q : Int, (q = 4 ∨ q = 5) → hasK (ss.set i x) q = false := fun q hq => by
  rw [Bool.eq_false_iff]
  intro hh
  obtain ⟨j, v, hv, he⟩ := (hasK_iff _ _).1 hh
  rcases hat hv with ⟨rfl, rfl⟩ | ⟨_, hv'⟩
  ·
   omega
  ·
   have := hasK_not g4 hv'
   have := hasK_not g5 hv'
   omega
 have hop : openS (ss.set i x) = true := held_open hself (.inr (.inr hx.1))
 refine ⟨⟨by rw [List.length_set]; exact h.len, ?_, fun j v u hv hu => ?_⟩, by rw [sumT_set hs, htt]; omega, hx.1, hx.2, hi1⟩
 ·
  unfold fitsS
  have h4n : ¬ hasK (ss.set i x) 4 = true := by rw [hno 4 (.inl rfl)]; decide
  rw [if_neg (fun hh => by rw [hop] at hh; cases hh.1), if_neg h4n, if_neg (fun hh => by rw [hop] at hh; cases hh), hno 5 (.inr rfl)]
  rfl
 ·
  rcases hat hv with ⟨rfl, rfl⟩ | ⟨hj, hv'⟩
  ·
   rw [ht] at hu
   obtain rfl := Option.some.inj hu
   refine ⟨hr, fun q w hq hw hp => ?_, fun e => by omega, fun _ _ => ?_⟩
   ·
    rcases hat hw with ⟨rfl, rfl⟩ | ⟨_, hw'⟩
    ·
     omega
    ·
     rw [hx.2]; exact hk q w hw'
   ·
    rw [← ready_same hdone]
    exact (h.each j s t hs ht).past (by omega) (by omega)
  ·
   have hS := h.each j v u hv' hu
   refine ⟨hS.right, fun q w hq hw hp => ?_, fun e => ?_, fun e e' => ?_⟩
   ·
    rcases hat hw with ⟨rfl, rfl⟩ | ⟨_, hw'⟩
    ·
     rw [hx.2]; exact fun e => hk j v hv' e.symm
    ·
     exact hS.token q w hq hw' hp
   ·
    rw [← ready_same hdone]; exact hS.waits e
   ·
    rw [← ready_same hdone]; exact hS.past e e'
theorem held_none_mend {ts : List TaskP} {ss : List StP} (h : hasK ss 2 = false) : hasK (mendS ts ss 0).1 2 = false := by
 have h0 : heldN ss = 0 := by
  unfold heldN
  rw [List.countP_eq_zero]
  intro s hs
  obtain ⟨i, hi, rfl⟩ := List.getElem_of_mem hs
  have := hasK_not h (List.getElem?_eq_getElem hi)
  simpa using this
 have := held_mend ts ss 0
 rw [Bool.eq_false_iff]
 intro hh
 obtain ⟨i, s, hs, he⟩ := (hasK_iff _ _).1 hh
 have : 0 < heldN (mendS ts ss 0).1 := List.countP_pos_iff.2 ⟨s, List.mem_of_getElem? hs, by simpa using he⟩
 omega
theorem answer_right {ts : List TaskP} {ss : List StP} (ht1 : ∀ (i : Nat) t, ts[i]? = some t → 1 ≤ t.tries) (h : RightS ts ss 0) {i : Nat} {s x : StP} {t : TaskP} (hs : ss[i]? = some s) (ht : ts[i]? = some t) (h2 : s.i = 2) (hone : ∀ (j : Nat) (u : StP), j ≠ i → ss[j]? = some u → u.i ≠ 2)
  (hx : rightT t.tries x = true) (hxt : x.t = s.t) (hxk : x.k = 0) (hx5 : x.i ≠ 5) (hx2 : x.i ≠ 2) :
  RightS ts (mendS ts (ss.set i x) 0).1 (mendS ts (ss.set i x) 0).2 ∧ hasK (mendS ts (ss.set i x) 0).1 2 = false ∧ sumT (mendS ts (ss.set i x) 0).1 = sumT ss := by
 have hl := (List.getElem?_eq_some_iff.1 hs).1
 refine ⟨mend_right ht1 (loose_set h hs ht hx (by omega) (by omega) hx5 (by omega)), held_none_mend ?_, by rw [mend_sum, sumT_set hs]; omega⟩
 rw [Bool.eq_false_iff]
 intro hh
 obtain ⟨j, v, hv, he⟩ := (hasK_iff _ _).1 hh
 rw [List.getElem?_set] at hv
 by_cases e : i = j
 ·
  subst e
  rw [if_pos rfl, if_pos hl] at hv
  obtain rfl := Option.some.inj hv
  exact hx2 he
 ·
  rw [if_neg e] at hv
  exact hone j v (fun hh => e hh.symm) hv he
end Go.Proofs.Ytdpljpjbomhccaa.Plain
namespace Go.Proofs.Ytdpljpjbomhccaa
open Go.RowKit Plain
set_option linter.unusedVariables false
def dueAt (ss : List StP) (u : Int) : Option Nat := ss.findIdx? fun s => decide (s.i = 1 ∧ s.d ≤ u)
theorem idx_none {α : Type} {p : α → Bool} {l : List α} (h : l.findIdx? p = none) {i : Nat} {s : α} (hs : l[i]? = some s) : p s = false := by
 rw [List.findIdx?_eq_none_iff] at h
 exact h s (List.mem_of_getElem? hs)
theorem held_none {ss : List StP} {k : Int} (h : heldAt ss k = none) {i : Nat} {s : StP} (hs : ss[i]? = some s) (h2 : s.i = 2) : s.k ≠ k := fun e => by
 have := idx_none h hs
 rw [decide_eq_true ⟨h2, e⟩] at this
 cases this
theorem due_at {ss : List StP} {u : Int} {i : Nat} (h : dueAt ss u = some i) : ∃ s, ss[i]? = some s ∧ s.i = 1 ∧ s.d ≤ u ∧ ∀ j < i, ∀ v, ss[j]? = some v → ¬ (v.i = 1 ∧ v.d ≤ u) := by
 obtain ⟨s, hs, hp, hq⟩ := idx_some h
 have := of_decide_eq_true hp
 exact ⟨s, hs, this.1, this.2, fun j hj v hv => of_decide_eq_false (hq j hj v hv)⟩
theorem due_none {ss : List StP} {u : Int} (h : dueAt ss u = none) {i : Nat} {s : StP} (hs : ss[i]? = some s) : ¬ (s.i = 1 ∧ s.d ≤ u) := of_decide_eq_false (idx_none h hs)
def leaseRE (zs : List StP) (now k : Int) : Int := if (1 ≤ k ∧ k ≤ 1099511627776) ∧ heldAt zs k = none then (if dueAt zs (untF now []) = none then 192 else 0) else 1
def leaseRP (zs : List StP) (now k : Int) : Int := if leaseRE zs now k = 0 then ((dueAt zs (untF now [])).getD 0 : Nat) else 0
def leaseAt (ts : List TaskP) (zs : List StP) (now k : Int) (i : Nat) : List StP :=
 match zs[i]?, ts[i]? with
 | some s, some t => zs.set i (leaseT t.lease s now k)
 | _, _ => zs
def leaseRZ (ts : List TaskP) (zs : List StP) (now k : Int) : List StP := match dueAt zs (untF now []) with | none => zs | some i => leaseAt ts zs now k i
theorem untD_any (now x : Int) (W : World) (z : Nat) (hz : z = W.heap.size) :
  Calls Try.prog 79 #[.int .i64 now, .slice (some ⟨z, 0, none⟩) 1 1] (W.alloc (.cells #[.int .i64 x] 3)).drew fun e w' => e = .returned (.int .i64 (untF now [x])) ∧ (W.alloc (.cells #[.int .i64 x] 3)).drew = w' :=
 untZ_any now x W.drew z hz
set_option maxRecDepth 20000 in
set_option maxHeartbeats 2000000 in
theorem leaseT_any (ta : Option Addr) (tl tc : Nat) (tr wt le : Int) (i t d k : Int) (r : ByteArray) (now x : Int) (w : World) :
  Calls Try.prog 51 #[.agg #[.slice ta tl tc, .int .i64 tr, .int .i64 wt, .int .i64 le], .agg #[.int .i64 i, .int .i64 t, .int .i64 d, .int .i64 k, .string r], .int .i64 now, .int .i64 x] w fun e w' => e = .returned (.tuple #[vT (leaseT le ⟨i, t, d, k, r⟩ now x), .int .i64 (leaseE ⟨i, t, d, k, r⟩ now x)]) ∧ Below w.heap.size w w' := by
 have c1 := isTokenT_any x
 by_cases hx : 1 ≤ x ∧ x ≤ 1099511627776
 ·
  rw [show tokB x = true from decide_eq_true hx] at c1
  by_cases h : i = 1
  ·
   subst h
   have c2 := isOverT_any 1 t d k r now
   have cU := fun W z hz => untD_any now le W z hz
   by_cases ho : d ≤ untF now []
   ·
    have e0 : leaseE ⟨1, t, d, k, r⟩ now x = 0 := by unfold leaseE; rw [if_pos hx, if_pos ⟨rfl, ho⟩]
    rw [show leaseT le ⟨1, t, d, k, r⟩ now x = ⟨2, wrap64 (t + 1), untF now [le], x, r⟩ from if_pos e0, e0]
    rw [decide_eq_true ho] at c2
    generalize untF now [le] = u at *
    clear ho e0
    go_enter Try.func51, Try.ntmps51
    go_wp2_with (first
     | (go_at_call 86; refine (c1 _).mono ?_; rintro e w' ⟨rfl, rfl⟩)
     | (go_at_call 80; refine (c2 _).mono ?_; rintro e w' ⟨rfl, rfl⟩)
     | (go_at_call 79; refine (cU _ _ (by simp)).mono ?_; rintro e w' ⟨rfl, rfl⟩))
    exact bodyPost_ret (v := .tuple #[.agg #[.int .i64 2, .int .i64 (wrap64 (t + 1)), .int .i64 u, .int .i64 x, .string r], .int .i64 0]) (by simp [results, Try.results51, go_sem]) rfl ⟨rfl, ((bel4 _ _ _ _ _).alloc (by simp; omega) _).drew⟩
   ·
    have e0 : leaseE ⟨1, t, d, k, r⟩ now x = 192 := by unfold leaseE; rw [if_pos hx, if_neg (fun hh => ho hh.2)]
    rw [show leaseT le ⟨1, t, d, k, r⟩ now x = zeroT from if_neg (by rw [e0]; decide), e0]
    rw [decide_eq_false ho] at c2
    clear ho e0
    go_enter Try.func51, Try.ntmps51
    go_wp2_with (first
     | (go_at_call 86; refine (c1 _).mono ?_; rintro e w' ⟨rfl, rfl⟩)
     | (go_at_call 80; refine (c2 _).mono ?_; rintro e w' ⟨rfl, rfl⟩)
     | (go_at_call 79; refine (cU _ _ (by simp)).mono ?_; rintro e w' ⟨rfl, rfl⟩))
    exact bodyPost_ret (v := .tuple #[.agg #[.int .i64 0, .int .i64 0, .int .i64 0, .int .i64 0, .string ⟨#[]⟩], .int .i64 192]) (by simp [results, Try.results51, go_sem]) rfl ⟨rfl, (bel4 _ _ _ _ _).drew⟩
  ·
   have e0 : leaseE ⟨i, t, d, k, r⟩ now x = 192 := by unfold leaseE; rw [if_pos hx, if_neg (fun hh => h hh.1)]
   rw [show leaseT le ⟨i, t, d, k, r⟩ now x = zeroT from if_neg (by rw [e0]; decide), e0]
   have h' : (i != 1) = true := by simpa using h
   clear e0
   go_enter Try.func51, Try.ntmps51
   go_wp2_with (first
    | (go_at_call 86; refine (c1 _).mono ?_; rintro e w' ⟨rfl, rfl⟩)
    | (go_at_call 80; refine (c2 _).mono ?_; rintro e w' ⟨rfl, rfl⟩)
    | (go_at_call 79; refine (cU _ _ (by simp)).mono ?_; rintro e w' ⟨rfl, rfl⟩))
   exact bodyPost_ret (v := .tuple #[.agg #[.int .i64 0, .int .i64 0, .int .i64 0, .int .i64 0, .string ⟨#[]⟩], .int .i64 192]) (by simp [results, Try.results51, go_sem]) rfl ⟨rfl, bel3 _ _ _ _⟩
 ·
  have e0 : leaseE ⟨i, t, d, k, r⟩ now x = 1 := if_neg hx
  rw [show tokB x = false from decide_eq_false hx] at c1
  rw [show leaseT le ⟨i, t, d, k, r⟩ now x = zeroT from if_neg (by rw [e0]; decide), e0]
  clear e0
  go_enter Try.func51, Try.ntmps51
  go_wp2_with (first
   | (go_at_call 86; refine (c1 _).mono ?_; rintro e w' ⟨rfl, rfl⟩)
   | (go_at_call 80; refine (c2 _).mono ?_; rintro e w' ⟨rfl, rfl⟩)
   | (go_at_call 79; refine (cU _ _ (by simp)).mono ?_; rintro e w' ⟨rfl, rfl⟩))
  exact bodyPost_ret (v := .tuple #[.agg #[.int .i64 0, .int .i64 0, .int .i64 0, .int .i64 0, .string ⟨#[]⟩], .int .i64 1]) (by simp [results, Try.results51, go_sem]) rfl ⟨rfl, bel3 _ _ _ _⟩
end Go.Proofs.Ytdpljpjbomhccaa
namespace Go.Proofs.Ytdpljpjbomhccaa
open Go.RowKit Go.Shelf Plain Anylast
set_option linter.unusedVariables false
attribute [local go_sem] Oper.semAt_some
theorem hideQI {F : Fence} {n : Nat} {P : Program} {c : Code} {Q : Exit → Act → World → Prop} {a : Act} {w : World} (h : ∀ Q' : Exit → Act → World → Prop, (∀ e a w, Q e a w → Q' e a w) → c.wpIn F n P Q' a w) : c.wpIn F n P Q a w := h Q fun _ _ _ q => q
def boxes6 (w : World) (ky nm : ByteArray) (ta : Option Addr) (tn tc : Nat) (is : Int) (sa : Option Addr) (n sc : Nat) (now k : Int) : World :=
 (((((w.alloc (.cells #[.string ky, .string nm, .slice ta tn tc, .int .i64 is, .slice sa n sc] 27)).alloc (.cells #[.int .i64 now] 3)).alloc (.cells #[.int .i64 k] 3)).alloc (.cells #[.string ⟨#[]⟩, .string ⟨#[]⟩, .slice none 0 0, .int .i64 0, .slice none 0 0] 27)).alloc (.cells #[.int .i64 0] 3)).alloc (.cells #[.int .i64 0] 29)
structure Boxes6 (W : World) (z0 z1 z2 z3 z4 z5 : Nat) (l : List Value) (now k : Int) : Prop where
 box : BoxL W z0 l
 now : BoxL W z1 [.int .i64 now]
 tok : BoxL W z2 [.int .i64 k]
 res : BoxL W z3 [.string ⟨#[]⟩, .string ⟨#[]⟩, .slice none 0 0, .int .i64 0, .slice none 0 0]
 at_ : BoxL W z4 [.int .i64 0]
 err : BoxL W z5 [.int .i64 0]
theorem Boxes6.below {W V : World} {z0 z1 z2 z3 z4 z5 : Nat} {l : List Value} {now k : Int} (h : Boxes6 W z0 z1 z2 z3 z4 z5 l now k) (hb : Below W.heap.size W V) : Boxes6 V z0 z1 z2 z3 z4 z5 l now k :=
 ⟨h.box.below hb, h.now.below hb, h.tok.below hb, h.res.below hb, h.at_.below hb, h.err.below hb⟩
theorem Boxes6.set {W V : World} {z0 z1 z2 z3 z4 z5 : Nat} {l l' : List Value} {now k : Int} (h : Boxes6 W z0 z1 z2 z3 z4 z5 l now k) (t : Turns (fun k => k = z0) W V) (b : BoxL V z0 l') (h1 : z1 ≠ z0) (h2 : z2 ≠ z0) (h3 : z3 ≠ z0) (h4 : z4 ≠ z0) (h5 : z5 ≠ z0) : Boxes6 V z0 z1 z2 z3 z4 z5 l' now k :=
 ⟨b, boxL_turns h.now t h1, boxL_turns h.tok t h2, boxL_turns h.res t h3, boxL_turns h.at_ t h4, boxL_turns h.err t h5⟩
theorem Boxes6.turns {P : Nat → Prop} {W V : World} {z0 z1 z2 z3 z4 z5 : Nat} {l : List Value} {now k : Int} (h : Boxes6 W z0 z1 z2 z3 z4 z5 l now k) (t : Turns P W V) (h0 : ¬ P z0) (h1 : ¬ P z1) (h2 : ¬ P z2) (h3 : ¬ P z3) (h4 : ¬ P z4) (h5 : ¬ P z5) : Boxes6 V z0 z1 z2 z3 z4 z5 l now k :=
 ⟨boxL_turns h.box t h0, boxL_turns h.now t h1, boxL_turns h.tok t h2, boxL_turns h.res t h3, boxL_turns h.at_ t h4, boxL_turns h.err t h5⟩
theorem boxes6_is (w : World) (ky nm : ByteArray) (ta : Option Addr) (tn tc : Nat) (is : Int) (sa : Option Addr) (n sc : Nat) (now k : Int) :
  Below w.heap.size w (boxes6 w ky nm ta tn tc is sa n sc now k) ∧ (boxes6 w ky nm ta tn tc is sa n sc now k).heap.size = w.heap.size + 6 ∧ Boxes6 (boxes6 w ky nm ta tn tc is sa n sc now k) w.heap.size (w.heap.size + 1) (w.heap.size + 1 + 1) (w.heap.size + 1 + 1 + 1) (w.heap.size + 1 + 1 + 1 + 1) (w.heap.size + 1 + 1 + 1 + 1 + 1) [.string ky, .string nm, .slice ta tn tc, .int .i64 is, .slice sa n sc] now k := by
 unfold boxes6
 refine ⟨((bel4 w _ _ _ _).alloc (by simp; omega) _).alloc (by simp; omega) _, by simp, ?_, ?_, ?_, ?_, ?_, ?_⟩
 ·
  exact (((((boxL_new w [.string ky, .string nm, .slice ta tn tc, .int .i64 is, .slice sa n sc] _ rfl).alloc _).alloc _).alloc _).alloc _).alloc _
 ·
  exact ((((boxL_new _ [.int .i64 now] _ (by simp)).alloc _).alloc _).alloc _).alloc _
 ·
  exact (((boxL_new _ [.int .i64 k] _ (by simp)).alloc _).alloc _).alloc _
 ·
  exact ((boxL_new _ [.string ⟨#[]⟩, .string ⟨#[]⟩, .slice none 0 0, .int .i64 0, .slice none 0 0] _ (by simp)).alloc _).alloc _
 ·
  exact (boxL_new _ [.int .i64 0] _ (by simp)).alloc _
 ·
  exact boxL_new _ [.int .i64 0] _ (by simp)
theorem fin3 {Z : World} {z3 z4 z5 : Nat} {u0 u1 u2 u3 u4 ua ue : Value} (b : BoxL Z z3 [u0, u1, u2, u3, u4]) (b4 : BoxL Z z4 [ua]) (b5 : BoxL Z z5 [ue]) (h34 : z3 ≠ z4) (h35 : z3 ≠ z5) (h45 : z4 ≠ z5) (v0 v1 v2 v3 v4 va ve : Value) :
  BoxL (((((((Z.setCell ⟨z3, 0, none⟩ (v0)).setCell ⟨z3, 1, none⟩ (v1)).setCell ⟨z3, 2, none⟩ (v2)).setCell ⟨z3, 3, none⟩ (v3)).setCell ⟨z3, 4, none⟩ (v4)).setCell ⟨z4, 0, none⟩ va).setCell ⟨z5, 0, none⟩ ve) z3 [v0, v1, v2, v3, v4] ∧
  BoxL (((((((Z.setCell ⟨z3, 0, none⟩ (v0)).setCell ⟨z3, 1, none⟩ (v1)).setCell ⟨z3, 2, none⟩ (v2)).setCell ⟨z3, 3, none⟩ (v3)).setCell ⟨z3, 4, none⟩ (v4)).setCell ⟨z4, 0, none⟩ va).setCell ⟨z5, 0, none⟩ ve) z4 [va] ∧
  BoxL (((((((Z.setCell ⟨z3, 0, none⟩ (v0)).setCell ⟨z3, 1, none⟩ (v1)).setCell ⟨z3, 2, none⟩ (v2)).setCell ⟨z3, 3, none⟩ (v3)).setCell ⟨z3, 4, none⟩ (v4)).setCell ⟨z4, 0, none⟩ va).setCell ⟨z5, 0, none⟩ ve) z5 [ve] ∧
  Turns (fun k => k = z3 ∨ k = z4 ∨ k = z5) Z (((((((Z.setCell ⟨z3, 0, none⟩ (v0)).setCell ⟨z3, 1, none⟩ (v1)).setCell ⟨z3, 2, none⟩ (v2)).setCell ⟨z3, 3, none⟩ (v3)).setCell ⟨z3, 4, none⟩ (v4)).setCell ⟨z4, 0, none⟩ va).setCell ⟨z5, 0, none⟩ ve) := by
 have t1 := turns_set5 Z z3 v0 v1 v2 v3 v4
 have c1 := boxL_set5 b v0 v1 v2 v3 v4
 have c4 := boxL_turns b4 t1 (show ¬ z4 = z3 from h34.symm)
 have c5 := boxL_turns b5 t1 (show ¬ z5 = z3 from h35.symm)
 refine ⟨(c1.off h34).off h35, (c4.set 0 va).off h45, (c5.off h45.symm).set 0 ve, ?_⟩
 exact ((t1.mono fun k hk => .inl hk).setCell (p := ⟨z4, 0, none⟩) (.inr (.inl rfl)) _).setCell (p := ⟨z5, 0, none⟩) (.inr (.inr rfl)) _
theorem mem_candTo {ks : List Int} {ss : List StP} {j k : Nat} {v : StP} (hv : ss[j]? = some v) (h : v.i ∈ ks) (hj : j < k) : (j, v) ∈ candTo ks ss k := by
 unfold candTo
 rw [List.mem_map]
 exact ⟨j, List.mem_filter.2 ⟨List.mem_range.2 hj, by rw [hv]; simpa using h⟩, by rw [hv]; rfl⟩
theorem keeps_set5 (B : Nat) (V : World) (z : Nat) (p0 p1 p2 p3 p4 : Nat) (u0 u1 u2 u3 u4 : Value) : KeepsFrom B V (((((V.setCell ⟨z, p0, none⟩ u0).setCell ⟨z, p1, none⟩ u1).setCell ⟨z, p2, none⟩ u2).setCell ⟨z, p3, none⟩ u3).setCell ⟨z, p4, none⟩ u4) :=
 ((((keeps_set _ _ _ _).trans (keeps_set _ _ _ _)).trans (keeps_set _ _ _ _)).trans (keeps_set _ _ _ _)).trans (keeps_set _ _ _ _)
theorem range_states {n : Nat} {w : World} {g : Operand} {ps : Array Tmp} {assign body : Code} {Q : Exit → Act → World → Prop} {a : Act} {gf : Nat} {lb : Array Value} {C : List (Nat × StP)} {Good : List (Nat × StP) → World → Prop} (U : Act → Nat × StP → Nat → Act)
  (hg : a.eval g = .func (.func gf) #[] lb) (eg : ∀ args w, (callFunc gf args).run Try.prog w = .ok (.enter gf args) w) (hC : Hands (n - 1) gf lb encZ C Good w) (hps : ∀ x, (encZ x).size = ps.size)
  (I : List (Nat × StP) → World → Prop) (Ix : Code → List (Nat × StP) → World → Prop) (hI : OwnFrom w.heap.size I) (hIx : ∀ c, OwnFrom w.heap.size (Ix c)) (hG : ∀ pre V, I pre V → Good pre V) (h0 : I [] w)
  (hassign : ∀ (l : Nat) (pre : List (Nat × StP)) (x : Nat × StP) (V : World) (K : Act → World → Prop), I pre V → pre ++ [x] <+: C → (∀ a' V' bx, KeepsFrom w.heap.size V V' → I pre V' → w.heap.size ≤ bx → BoxL V' bx [.int .i64 x.2.i, .int .i64 x.2.t, .int .i64 x.2.d, .int .i64 x.2.k, .string x.2.r] → a' = U a x bx → K a' V') →
   assign.wpIn (Fence.wide.inRound l) (n - 1 - 1) Try.prog (Exit.then K (fun _ _ _ => False)) { tmps := (ps.zip (encZ x)).foldl (fun t (p, v) => t.setIfInBounds p v) a.tmps, defers := [] } V)
  (hbody : ∀ (l : Nat) (pre : List (Nat × StP)) (x : Nat × StP) (bx : Nat) (V : World), I pre V → w.heap.size ≤ bx → BoxL V bx [.int .i64 x.2.i, .int .i64 x.2.t, .int .i64 x.2.d, .int .i64 x.2.k, .string x.2.r] → pre ++ [x] <+: C → body.wpIn (Fence.wide.inRound l) (n - 1 - 1) Try.prog (ownPostG w.heap.size (fun _ _ => True) I Ix (pre ++ [x]) V) (U a x bx) V)
  (hdone : ∀ (D : Nat) (V : World), w.heap.size ≤ D → I C V → V.heap[D]? = some (.deferred (some [])) → Q .normal { a with defers := { target := .collected D, args := #[] } :: a.defers } V)
  (hstop : ∀ (D : Nat) (c : Code) (pre : List (Nat × StP)) (V : World), w.heap.size ≤ D → pre <+: C → Ix c pre V → V.heap[D]? = some (.deferred (some [])) → c.wpIn Fence.wide n Try.prog Q { a with defers := { target := .collected D, args := #[] } :: a.defers } V) :
  (Code.rangeFunc g ps assign body).wpIn Fence.wide n Try.prog Q a w :=
 range_known hg eg hC hps I Ix hI hIx hG h0 (fun x a' V => ∃ bx, w.heap.size ≤ bx ∧ BoxL V bx [.int .i64 x.2.i, .int .i64 x.2.t, .int .i64 x.2.d, .int .i64 x.2.k, .string x.2.r] ∧ a' = U a x bx)
  (fun x a' s V V' row hs hg hr => by
   obtain ⟨bx, h1, h2, h3⟩ := hs
   exact ⟨bx, h1, boxL_kept h2 hg (fun r e => (hr r e).2), h3⟩)
  (fun l pre x V K hi hp hK => hassign l pre x V K hi hp fun a' V' bx h1 h2 h3 h4 h5 => hK a' V' h1 h2 ⟨bx, h3, h4, h5⟩)
  (fun l pre x a' V hi hx hp => by
   obtain ⟨bx, h1, h2, rfl⟩ := hx
   exact hbody l pre x bx V hi h1 h2 hp)
  hdone hstop
theorem OwnRun.renew {P : Nat → Prop} {W V : World} {B g h n cap capS : Nat} {tv : List TaskV} {ss ss' : List StP} (r : OwnRun W B g h n cap capS tv ss) (t : Turns P W V) (hP : ∀ k, P k → k < B ∨ k = h ∨ W.heap.size ≤ k) (hR : RowZ V h 0 capS ss') (hl : ss'.length = ss.length) : OwnRun V B g h n cap capS tv ss' := by
 have hg := r.hg
 have hgh := r.hgh
 have hlt := r.row.lt
 refine ⟨r.hT.kept t (fun h0 x hx hp => ?_) (fun u hu h0 x hx hp => ?_), hR, r.deep, r.hgh, r.hg, r.htn, by rw [hl]; exact r.hn⟩
 ·
  cases hx; have := hP _ hp; simp only at this; omega
 ·
  have h1 := hP _ hp
  have h2 := r.deep u hu x hx
  have h3 := (r.hT.2.2.1 u hu).lies h0 x hx
  omega
def Fin1 (W1 V : World) (z3 z4 z5 h g m cap capS : Nat) (tw : List TaskV) (ky nm : ByteArray) (zi : Int) (zs : List StP) (now k : Int) : Prop :=
 ∃ ix : Nat, dueAt zs (untF now []) = some ix ∧ BoxL V z3 [.string ky, .string nm, .slice (some ⟨g, 0, none⟩) m cap, .int .i64 zi, .slice (some ⟨h, 0, none⟩) m capS] ∧ BoxL V z4 [.int .i64 ix] ∧ BoxL V z5 [.int .i64 0] ∧
  RowZ V h 0 capS (leaseAt (plainT tw) zs now k ix) ∧ Turns (fun k => k = z3 ∨ k = z4 ∨ k = z5 ∨ k = h ∨ W1.heap.size ≤ k) W1 V
theorem Fin1.grown {W1 V V' : World} {z3 z4 z5 h g m cap capS : Nat} {tw : List TaskV} {ky nm : ByteArray} {zi : Int} {zs : List StP} {now k : Int} (f : Fin1 W1 V z3 z4 z5 h g m cap capS tw ky nm zi zs now k) (t : Turns (fun k => W1.heap.size ≤ k) V V') (hz : z3 < W1.heap.size ∧ z4 < W1.heap.size ∧ z5 < W1.heap.size) (hB : h < W1.heap.size) : Fin1 W1 V' z3 z4 z5 h g m cap capS tw ky nm zi zs now k := by
 obtain ⟨ix, h1, b3, b4, b5, O, T⟩ := f
 refine ⟨ix, h1, boxL_turns b3 t (by omega), boxL_turns b4 t (by omega), boxL_turns b5 t (by omega), O.turns t (by omega), T.trans (t.mono fun k hk => .inr (.inr (.inr (.inr hk))))⟩
theorem round_held {P : Program} {ops : Array Oper} {Q : Exit → Act → World → Prop} {K : Act → World → Prop} {l n id : Nat} {a : Act} {w : World} (hm : P.follows .mixedOrders = true) (hc : calm ops = true) (S : World → Prop) (hS : S w.drew)
  (h : S w.drew → wpAnyH P .any ops (Exit.then K fun _ _ _ => False) S ops.size (Array.replicate ops.size false) a w.drew) : (Code.region id ops true).wpIn (Fence.wide.inRound l) n P (Exit.then K Q) a w :=
 wpIn_mono (region_round hm hc (by rintro ⟨_, _, h⟩; exact h) (wpAny_of_held _ _ _ _ (h hS))) fun e a w h => by cases e <;> first | exact h | exact h.elim
end Go.Proofs.Ytdpljpjbomhccaa
namespace Go.Proofs.Ytdpljpjbomhccaa
open Go.RowKit Plain
set_option linter.unusedVariables false
noncomputable def cancelE (ky nm : ByteArray) (ts : List TaskP) (ss : List StP) (is now : Int) : Int :=
 if runB ky nm ts ss is = true then (if (settleS ts (untF now []) (ss, is)).2 = 0 then 0 else 193) else 1
end Go.Proofs.Ytdpljpjbomhccaa
namespace Go.Proofs.Ytdpljpjbomhccaa.Plain
open Go.RowKit
set_option linter.unusedVariables false
theorem cancel_all {ts : List TaskP} {ss : List StP} (h : RightS ts ss 0) : RightS ts (ss.map cancelT) 3 ∧ (∀ (i : Nat) s, (ss.map cancelT)[i]? = some s → s.k = 0 ∧ s.i ≠ 2) := by
 obtain ⟨ho, g4, g5⟩ := goes_parts h.fits
 have hno : ∀ k : Int, k = 0 ∨ k = 1 ∨ k = 2 ∨ k = 4 → hasK (ss.map cancelT) k = false := fun k hk => by
  rw [Bool.eq_false_iff]
  intro hh
  obtain ⟨i, s, hs, he⟩ := (hasK_iff _ _).1 hh
  rw [List.getElem?_map] at hs
  obtain ⟨u, hu, rfl⟩ := Option.map_eq_some_iff.1 hs
  have := hasK_not g4 hu
  rw [cancel_i] at he
  split at he <;> omega
 have h5 : hasK (ss.map cancelT) 5 = true := by
  unfold openS at ho
  have hh : ∃ k : Int, (k = 0 ∨ k = 1 ∨ k = 2) ∧ hasK ss k = true := by
   rw [Bool.or_eq_true, Bool.or_eq_true] at ho
   rcases ho with (e | e) | e
   ·
    exact ⟨0, by omega, e⟩
   ·
    exact ⟨1, by omega, e⟩
   ·
    exact ⟨2, by omega, e⟩
  obtain ⟨k, hk, hh⟩ := hh
  obtain ⟨i, s, hs, he⟩ := (hasK_iff ss k).1 hh
  refine (hasK_iff _ _).2 ⟨i, cancelT s, by rw [List.getElem?_map, hs]; rfl, ?_⟩
  rw [cancel_i, if_pos (by omega)]
 have hop : openS (ss.map cancelT) = false := by unfold openS; rw [hno 0 (by simp), hno 1 (by simp), hno 2 (by simp)]; rfl
 refine ⟨⟨by rw [List.length_map]; exact h.len, ?_, fun i s t hs ht => ?_⟩, fun i s hs => ?_⟩
 ·
  unfold fitsS
  have h4n : ¬ hasK (ss.map cancelT) 4 = true := by rw [hno 4 (by simp)]; decide
  rw [if_neg (fun hh => by rw [h5] at hh; cases hh.2.2), if_neg h4n, if_pos hop]
  rfl
 ·
  rw [List.getElem?_map] at hs
  obtain ⟨u, hu, rfl⟩ := Option.map_eq_some_iff.1 hs
  have hS := h.each i u t hu ht
  refine ⟨(right_cancel hS.right).1, fun k v hk hv h0 => ?_, fun h0 => ?_, fun h0 h5' => ?_⟩
  ·
   rw [cancel_k hS.right] at h0; omega
  ·
   rw [cancel_i] at h0
   split at h0 <;> omega
  ·
   rw [← ready_same (done_cancel ss)]
   rw [cancel_i] at h5' h0
   split at h5'
   ·
    exact absurd rfl h5'
   ·
    rename_i hn
    exact hS.past (fun e => hn (.inl e)) (hasK_not g5 hu)
 ·
  rw [List.getElem?_map] at hs
  obtain ⟨u, hu, rfl⟩ := Option.map_eq_some_iff.1 hs
  obtain ⟨t, ht⟩ := h.task hu
  refine ⟨cancel_k (h.each i u t hu ht).right, ?_⟩
  rw [cancel_i]
  split <;> omega
end Go.Proofs.Ytdpljpjbomhccaa.Plain
namespace Go.Proofs.Ytdpljpjbomhccaa
open Go.RowKit Plain
set_option linter.unusedVariables false
set_option maxRecDepth 20000 in
set_option maxHeartbeats 1000000 in
theorem beatW_any (ky nm : ByteArray) (ta : Option Addr) (tn tc : Nat) (is : Int) (sa : Option Addr) (n sc : Nat) (tv : List TaskV) (ss : List StP) (now k : Int) (w : World)
  (hky : ky.size ≤ maxLen) (hk : wfJ k) (hT : IsT w ta tc tv) (htn : tn = tv.length) (hZ : IsZ w sa sc ss) (hn : n = ss.length) (E : Int) (hE : E = if runB ky nm (plainT tv) ss is = true then ansE (plainT tv) (fun _ s => heldE s) (settleS (plainT tv) (untF now []) (ss, is)).1 k else 1) :
  Calls Try.prog 23 #[.agg #[.string ky, .string nm, .slice ta tn tc, .int .i64 is, .slice sa n sc], .int .i64 now, .int .i64 k] w fun e w' => ToldW w E ky nm (ansZ (plainT tv) (fun t s => beatT t.lease s now) (settleS (plainT tv) (untF now []) (ss, is)).1 (settleS (plainT tv) (untF now []) (ss, is)).2 k).2 (plainT tv) (ansZ (plainT tv) (fun t s => beatT t.lease s now) (settleS (plainT tv) (untF now []) (ss, is)).1 (settleS (plainT tv) (untF now []) (ss, is)).2 k).1 e w' := by
 obtain ⟨W0, hW0⟩ : ∃ W0, W0 = ((w.alloc (.cells #[.string ky, .string nm, .slice ta tn tc, .int .i64 is, .slice sa n sc] 27)).alloc (.cells #[.int .i64 now] 3)).alloc (.cells #[.string ⟨#[]⟩, .string ⟨#[]⟩, .slice none 0 0, .int .i64 0, .slice none 0 0] 27) := ⟨_, rfl⟩
 have hB0 : Below w.heap.size w W0 := by rw [hW0]; exact bel3 w _ _ _
 have hs0 : W0.heap.size = w.heap.size + 3 := by rw [hW0]; simp
 have BX : BoxL W0 w.heap.size [.string ky, .string nm, .slice ta tn tc, .int .i64 is, .slice sa n sc] := by rw [hW0]; exact ((boxL_new w [.string ky, .string nm, .slice ta tn tc, .int .i64 is, .slice sa n sc] _ rfl).alloc _).alloc _
 have BQ : BoxL W0 (w.heap.size + 1) [.int .i64 now] := by rw [hW0]; exact (boxL_new _ [.int .i64 now] _ (by simp)).alloc _
 have BY : BoxL W0 (w.heap.size + 1 + 1) [.string ⟨#[]⟩, .string ⟨#[]⟩, .slice none 0 0, .int .i64 0, .slice none 0 0] := by rw [hW0]; exact boxL_new _ [.string ⟨#[]⟩, .string ⟨#[]⟩, .slice none 0 0, .int .i64 0, .slice none 0 0] _ (by simp)
 have cS := answered_any 57 (w.heap.size + 1) _ _ ky nm ta tn tc is sa n sc tv ss now k W0 (enters_of Try.func57 (by kernel_rfl) rfl) (beat1_any W0 _ now BQ) (fun t s h => beat_text h) hky hk (hT.below hB0) htn (hZ.below hB0) hn E hE
 obtain ⟨RI, hRI⟩ : ∃ RI, RI = (ansZ (plainT tv) (fun t s => beatT t.lease s now) (settleS (plainT tv) (untF now []) (ss, is)).1 (settleS (plainT tv) (untF now []) (ss, is)).2 k).2 := ⟨_, rfl⟩
 obtain ⟨RZ, hRZ⟩ : ∃ RZ, RZ = (ansZ (plainT tv) (fun t s => beatT t.lease s now) (settleS (plainT tv) (untF now []) (ss, is)).1 (settleS (plainT tv) (untF now []) (ss, is)).2 k).1 := ⟨_, rfl⟩
 rw [← hRI, ← hRZ] at cS ⊢
 clear hT htn hZ hn hE hRI hRZ
 have f0 := BX.1 0 _ rfl; have f1 := BX.1 1 _ rfl; have f2 := BX.1 2 _ rfl; have f3 := BX.1 3 _ rfl; have f4 := BX.1 4 _ rfl
 have g0 := BQ.1 0 _ rfl
 go_enter Try.func23, Try.ntmps23
 refine wp_seq_k (fun K hK => ?_); have HK : Shut _ := hK; clear hK
 go_wp2
 refine HK.out _ _ ?_; clear HK K
 rw [← hW0]
 clear hW0
 go_wp2_with (go_at_call 56; refine cS.mono ?_; rintro e w1 ⟨xk, xn, xa, xm, xc, xi, xs, xq, xsc, xt, xz, rfl, hX, h0, h1, hb⟩; have BY1 := BY.below hb; have hB1 := Below.tr hB0 hb; have HX : Hid (∀ V, Turns (fun k => k < W0.heap.size) w1 V → XR V xa xm xc xs xq xsc xt xz) := hX; have H0 : Hid _ := h0; have H1 : Hid _ := h1; clear f0 f1 f2 f3 f4 g0 hX h0 h1; have y0 := BY1.1 0 _ rfl; have y1 := BY1.1 1 _ rfl; have y2 := BY1.1 2 _ rfl; have y3 := BY1.1 3 _ rfl; have y4 := BY1.1 4 _ rfl; have d0 := BY1.2 0 (by simp); have d1 := BY1.2 1 (by simp); have d2 := BY1.2 2 (by simp); have d3 := BY1.2 3 (by simp); have d4 := BY1.2 4 (by simp))
 obtain ⟨Z, hZ⟩ : ∃ Z, Z = (((((w1.setCell ⟨w.heap.size + 1 + 1, 0, none⟩ (.string xk)).setCell ⟨w.heap.size + 1 + 1, 1, none⟩ (.string xn)).setCell ⟨w.heap.size + 1 + 1, 2, none⟩ (.slice xa xm xc)).setCell ⟨w.heap.size + 1 + 1, 3, none⟩ (.int .i64 xi)).setCell ⟨w.heap.size + 1 + 1, 4, none⟩ (.slice xs xq xsc)) := ⟨_, rfl⟩
 have TZ : Turns (fun k => k = w.heap.size + 1 + 1) w1 Z := by rw [hZ]; exact turns_set5 _ _ _ _ _ _ _
 have BZ : BoxL Z (w.heap.size + 1 + 1) [.string xk, .string xn, .slice xa xm xc, .int .i64 xi, .slice xs xq xsc] := by rw [hZ]; exact boxL_set5 BY1 _ _ _ _ _
 have hBZ := Below.turns hB1 TZ (fun k hk => by omega)
 rw [← hZ]
 clear hZ
 have r0 := BZ.1 0 _ rfl; have r1 := BZ.1 1 _ rfl; have r2 := BZ.1 2 _ rfl; have r3 := BZ.1 3 _ rfl; have r4 := BZ.1 4 _ rfl
 exact bodyPost_ret (v := .tuple #[.agg #[.string xk, .string xn, .slice xa xm xc, .int .i64 xi, .slice xs xq xsc], .int .i64 E]) (by simp [results, Try.results23, go_sem, r0, r1, r2, r3, r4]) rfl ⟨xk, xn, xa, xm, xc, xi, xs, xq, xsc, xt, xz, rfl, fun V9 t9 => HX.out V9 ((TZ.mono fun k hk => by subst hk; omega).trans (t9.mono fun k hk => by omega)), H0.out, H1.out, hBZ⟩
set_option maxRecDepth 20000 in
set_option maxHeartbeats 1000000 in
theorem doneW_any (ky nm : ByteArray) (ta : Option Addr) (tn tc : Nat) (is : Int) (sa : Option Addr) (n sc : Nat) (tv : List TaskV) (ss : List StP) (now k : Int) (x : ByteArray) (w : World) (hx : x.size ≤ maxLen)
  (hky : ky.size ≤ maxLen) (hk : wfJ k) (hT : IsT w ta tc tv) (htn : tn = tv.length) (hZ : IsZ w sa sc ss) (hn : n = ss.length) (E : Int) (hE : E = if runB ky nm (plainT tv) ss is = true then ansE (plainT tv) (fun _ s => doneE s x) (settleS (plainT tv) (untF now []) (ss, is)).1 k else 1) :
  Calls Try.prog 24 #[.agg #[.string ky, .string nm, .slice ta tn tc, .int .i64 is, .slice sa n sc], .int .i64 now, .int .i64 k, .string x] w fun e w' => ToldW w E ky nm (ansZ (plainT tv) (fun _ s => doneT s x) (settleS (plainT tv) (untF now []) (ss, is)).1 (settleS (plainT tv) (untF now []) (ss, is)).2 k).2 (plainT tv) (ansZ (plainT tv) (fun _ s => doneT s x) (settleS (plainT tv) (untF now []) (ss, is)).1 (settleS (plainT tv) (untF now []) (ss, is)).2 k).1 e w' := by
 obtain ⟨W0, hW0⟩ : ∃ W0, W0 = ((w.alloc (.cells #[.string ky, .string nm, .slice ta tn tc, .int .i64 is, .slice sa n sc] 27)).alloc (.cells #[.string x] 9)).alloc (.cells #[.string ⟨#[]⟩, .string ⟨#[]⟩, .slice none 0 0, .int .i64 0, .slice none 0 0] 27) := ⟨_, rfl⟩
 have hB0 : Below w.heap.size w W0 := by rw [hW0]; exact bel3 w _ _ _
 have hs0 : W0.heap.size = w.heap.size + 3 := by rw [hW0]; simp
 have BX : BoxL W0 w.heap.size [.string ky, .string nm, .slice ta tn tc, .int .i64 is, .slice sa n sc] := by rw [hW0]; exact ((boxL_new w [.string ky, .string nm, .slice ta tn tc, .int .i64 is, .slice sa n sc] _ rfl).alloc _).alloc _
 have BQ : BoxL W0 (w.heap.size + 1) [.string x] := by rw [hW0]; exact (boxL_new _ [.string x] _ (by simp)).alloc _
 have BY : BoxL W0 (w.heap.size + 1 + 1) [.string ⟨#[]⟩, .string ⟨#[]⟩, .slice none 0 0, .int .i64 0, .slice none 0 0] := by rw [hW0]; exact boxL_new _ [.string ⟨#[]⟩, .string ⟨#[]⟩, .slice none 0 0, .int .i64 0, .slice none 0 0] _ (by simp)
 have cS := answered_any 59 (w.heap.size + 1) _ _ ky nm ta tn tc is sa n sc tv ss now k W0 (enters_of Try.func59 (by kernel_rfl) rfl) (done1_any W0 _ x hx BQ) (fun t s h => done_text hx) hky hk (hT.below hB0) htn (hZ.below hB0) hn E hE
 obtain ⟨RI, hRI⟩ : ∃ RI, RI = (ansZ (plainT tv) (fun _ s => doneT s x) (settleS (plainT tv) (untF now []) (ss, is)).1 (settleS (plainT tv) (untF now []) (ss, is)).2 k).2 := ⟨_, rfl⟩
 obtain ⟨RZ, hRZ⟩ : ∃ RZ, RZ = (ansZ (plainT tv) (fun _ s => doneT s x) (settleS (plainT tv) (untF now []) (ss, is)).1 (settleS (plainT tv) (untF now []) (ss, is)).2 k).1 := ⟨_, rfl⟩
 rw [← hRI, ← hRZ] at cS ⊢
 clear hT htn hZ hn hE hRI hRZ
 have f0 := BX.1 0 _ rfl; have f1 := BX.1 1 _ rfl; have f2 := BX.1 2 _ rfl; have f3 := BX.1 3 _ rfl; have f4 := BX.1 4 _ rfl
 have g0 := BQ.1 0 _ rfl
 go_enter Try.func24, Try.ntmps24
 refine wp_seq_k (fun K hK => ?_); have HK : Shut _ := hK; clear hK
 go_wp2
 refine HK.out _ _ ?_; clear HK K
 rw [← hW0]
 clear hW0
 go_wp2_with (go_at_call 56; refine cS.mono ?_; rintro e w1 ⟨xk, xn, xa, xm, xc, xi, xs, xq, xsc, xt, xz, rfl, hX, h0, h1, hb⟩; have BY1 := BY.below hb; have hB1 := Below.tr hB0 hb; have HX : Hid (∀ V, Turns (fun k => k < W0.heap.size) w1 V → XR V xa xm xc xs xq xsc xt xz) := hX; have H0 : Hid _ := h0; have H1 : Hid _ := h1; clear f0 f1 f2 f3 f4 g0 hX h0 h1; have y0 := BY1.1 0 _ rfl; have y1 := BY1.1 1 _ rfl; have y2 := BY1.1 2 _ rfl; have y3 := BY1.1 3 _ rfl; have y4 := BY1.1 4 _ rfl; have d0 := BY1.2 0 (by simp); have d1 := BY1.2 1 (by simp); have d2 := BY1.2 2 (by simp); have d3 := BY1.2 3 (by simp); have d4 := BY1.2 4 (by simp))
 obtain ⟨Z, hZ⟩ : ∃ Z, Z = (((((w1.setCell ⟨w.heap.size + 1 + 1, 0, none⟩ (.string xk)).setCell ⟨w.heap.size + 1 + 1, 1, none⟩ (.string xn)).setCell ⟨w.heap.size + 1 + 1, 2, none⟩ (.slice xa xm xc)).setCell ⟨w.heap.size + 1 + 1, 3, none⟩ (.int .i64 xi)).setCell ⟨w.heap.size + 1 + 1, 4, none⟩ (.slice xs xq xsc)) := ⟨_, rfl⟩
 have TZ : Turns (fun k => k = w.heap.size + 1 + 1) w1 Z := by rw [hZ]; exact turns_set5 _ _ _ _ _ _ _
 have BZ : BoxL Z (w.heap.size + 1 + 1) [.string xk, .string xn, .slice xa xm xc, .int .i64 xi, .slice xs xq xsc] := by rw [hZ]; exact boxL_set5 BY1 _ _ _ _ _
 have hBZ := Below.turns hB1 TZ (fun k hk => by omega)
 rw [← hZ]
 clear hZ
 have r0 := BZ.1 0 _ rfl; have r1 := BZ.1 1 _ rfl; have r2 := BZ.1 2 _ rfl; have r3 := BZ.1 3 _ rfl; have r4 := BZ.1 4 _ rfl
 exact bodyPost_ret (v := .tuple #[.agg #[.string xk, .string xn, .slice xa xm xc, .int .i64 xi, .slice xs xq xsc], .int .i64 E]) (by simp [results, Try.results24, go_sem, r0, r1, r2, r3, r4]) rfl ⟨xk, xn, xa, xm, xc, xi, xs, xq, xsc, xt, xz, rfl, fun V9 t9 => HX.out V9 ((TZ.mono fun k hk => by subst hk; omega).trans (t9.mono fun k hk => by omega)), H0.out, H1.out, hBZ⟩
set_option maxRecDepth 20000 in
set_option maxHeartbeats 1000000 in
theorem failW_any (ky nm : ByteArray) (ta : Option Addr) (tn tc : Nat) (is : Int) (sa : Option Addr) (n sc : Nat) (tv : List TaskV) (ss : List StP) (now k : Int) (w : World)
  (hky : ky.size ≤ maxLen) (hk : wfJ k) (hT : IsT w ta tc tv) (htn : tn = tv.length) (hZ : IsZ w sa sc ss) (hn : n = ss.length) (E : Int) (hE : E = if runB ky nm (plainT tv) ss is = true then ansE (plainT tv) (fun _ s => heldE s) (settleS (plainT tv) (untF now []) (ss, is)).1 k else 1) :
  Calls Try.prog 25 #[.agg #[.string ky, .string nm, .slice ta tn tc, .int .i64 is, .slice sa n sc], .int .i64 now, .int .i64 k] w fun e w' => ToldW w E ky nm (ansZ (plainT tv) (fun t s => failT t.tries t.wait s now) (settleS (plainT tv) (untF now []) (ss, is)).1 (settleS (plainT tv) (untF now []) (ss, is)).2 k).2 (plainT tv) (ansZ (plainT tv) (fun t s => failT t.tries t.wait s now) (settleS (plainT tv) (untF now []) (ss, is)).1 (settleS (plainT tv) (untF now []) (ss, is)).2 k).1 e w' := by
 obtain ⟨W0, hW0⟩ : ∃ W0, W0 = ((w.alloc (.cells #[.string ky, .string nm, .slice ta tn tc, .int .i64 is, .slice sa n sc] 27)).alloc (.cells #[.int .i64 now] 3)).alloc (.cells #[.string ⟨#[]⟩, .string ⟨#[]⟩, .slice none 0 0, .int .i64 0, .slice none 0 0] 27) := ⟨_, rfl⟩
 have hB0 : Below w.heap.size w W0 := by rw [hW0]; exact bel3 w _ _ _
 have hs0 : W0.heap.size = w.heap.size + 3 := by rw [hW0]; simp
 have BX : BoxL W0 w.heap.size [.string ky, .string nm, .slice ta tn tc, .int .i64 is, .slice sa n sc] := by rw [hW0]; exact ((boxL_new w [.string ky, .string nm, .slice ta tn tc, .int .i64 is, .slice sa n sc] _ rfl).alloc _).alloc _
 have BQ : BoxL W0 (w.heap.size + 1) [.int .i64 now] := by rw [hW0]; exact (boxL_new _ [.int .i64 now] _ (by simp)).alloc _
 have BY : BoxL W0 (w.heap.size + 1 + 1) [.string ⟨#[]⟩, .string ⟨#[]⟩, .slice none 0 0, .int .i64 0, .slice none 0 0] := by rw [hW0]; exact boxL_new _ [.string ⟨#[]⟩, .string ⟨#[]⟩, .slice none 0 0, .int .i64 0, .slice none 0 0] _ (by simp)
 have cS := answered_any 61 (w.heap.size + 1) _ _ ky nm ta tn tc is sa n sc tv ss now k W0 (enters_of Try.func61 (by kernel_rfl) rfl) (fail1_any W0 _ now BQ) (fun t s h => fail_text h) hky hk (hT.below hB0) htn (hZ.below hB0) hn E hE
 obtain ⟨RI, hRI⟩ : ∃ RI, RI = (ansZ (plainT tv) (fun t s => failT t.tries t.wait s now) (settleS (plainT tv) (untF now []) (ss, is)).1 (settleS (plainT tv) (untF now []) (ss, is)).2 k).2 := ⟨_, rfl⟩
 obtain ⟨RZ, hRZ⟩ : ∃ RZ, RZ = (ansZ (plainT tv) (fun t s => failT t.tries t.wait s now) (settleS (plainT tv) (untF now []) (ss, is)).1 (settleS (plainT tv) (untF now []) (ss, is)).2 k).1 := ⟨_, rfl⟩
 rw [← hRI, ← hRZ] at cS ⊢
 clear hT htn hZ hn hE hRI hRZ
 have f0 := BX.1 0 _ rfl; have f1 := BX.1 1 _ rfl; have f2 := BX.1 2 _ rfl; have f3 := BX.1 3 _ rfl; have f4 := BX.1 4 _ rfl
 have g0 := BQ.1 0 _ rfl
 go_enter Try.func25, Try.ntmps25
 refine wp_seq_k (fun K hK => ?_); have HK : Shut _ := hK; clear hK
 go_wp2
 refine HK.out _ _ ?_; clear HK K
 rw [← hW0]
 clear hW0
 go_wp2_with (go_at_call 56; refine cS.mono ?_; rintro e w1 ⟨xk, xn, xa, xm, xc, xi, xs, xq, xsc, xt, xz, rfl, hX, h0, h1, hb⟩; have BY1 := BY.below hb; have hB1 := Below.tr hB0 hb; have HX : Hid (∀ V, Turns (fun k => k < W0.heap.size) w1 V → XR V xa xm xc xs xq xsc xt xz) := hX; have H0 : Hid _ := h0; have H1 : Hid _ := h1; clear f0 f1 f2 f3 f4 g0 hX h0 h1; have y0 := BY1.1 0 _ rfl; have y1 := BY1.1 1 _ rfl; have y2 := BY1.1 2 _ rfl; have y3 := BY1.1 3 _ rfl; have y4 := BY1.1 4 _ rfl; have d0 := BY1.2 0 (by simp); have d1 := BY1.2 1 (by simp); have d2 := BY1.2 2 (by simp); have d3 := BY1.2 3 (by simp); have d4 := BY1.2 4 (by simp))
 obtain ⟨Z, hZ⟩ : ∃ Z, Z = (((((w1.setCell ⟨w.heap.size + 1 + 1, 0, none⟩ (.string xk)).setCell ⟨w.heap.size + 1 + 1, 1, none⟩ (.string xn)).setCell ⟨w.heap.size + 1 + 1, 2, none⟩ (.slice xa xm xc)).setCell ⟨w.heap.size + 1 + 1, 3, none⟩ (.int .i64 xi)).setCell ⟨w.heap.size + 1 + 1, 4, none⟩ (.slice xs xq xsc)) := ⟨_, rfl⟩
 have TZ : Turns (fun k => k = w.heap.size + 1 + 1) w1 Z := by rw [hZ]; exact turns_set5 _ _ _ _ _ _ _
 have BZ : BoxL Z (w.heap.size + 1 + 1) [.string xk, .string xn, .slice xa xm xc, .int .i64 xi, .slice xs xq xsc] := by rw [hZ]; exact boxL_set5 BY1 _ _ _ _ _
 have hBZ := Below.turns hB1 TZ (fun k hk => by omega)
 rw [← hZ]
 clear hZ
 have r0 := BZ.1 0 _ rfl; have r1 := BZ.1 1 _ rfl; have r2 := BZ.1 2 _ rfl; have r3 := BZ.1 3 _ rfl; have r4 := BZ.1 4 _ rfl
 exact bodyPost_ret (v := .tuple #[.agg #[.string xk, .string xn, .slice xa xm xc, .int .i64 xi, .slice xs xq xsc], .int .i64 E]) (by simp [results, Try.results25, go_sem, r0, r1, r2, r3, r4]) rfl ⟨xk, xn, xa, xm, xc, xi, xs, xq, xsc, xt, xz, rfl, fun V9 t9 => HX.out V9 ((TZ.mono fun k hk => by subst hk; omega).trans (t9.mono fun k hk => by omega)), H0.out, H1.out, hBZ⟩
def SaidY (w : World) (E : Int) (ky nm : ByteArray) (y : List StP × Int) (fs : List TaskP) (e : Ending) (w' : World) : Prop :=
 ∃ xk xn xa xm xc xi xz xq xl, e = .returned (.tuple #[.agg #[.string xk, .string xn, .slice xa xm xc, .int .i64 xi, .slice xz xq xl], .int .i64 E]) ∧ Said w' E ky nm y.2 fs y.1 xk xn xa xm xc xi xz xq xl ∧ Below w.heap.size w w'
def SaidLY (w : World) (E p : Int) (ky nm : ByteArray) (y : List StP × Int) (fs : List TaskP) (e : Ending) (w' : World) : Prop :=
 ∃ xk xn xa xm xc xi xz xq xl, e = .returned (.tuple #[.agg #[.string xk, .string xn, .slice xa xm xc, .int .i64 xi, .slice xz xq xl], .int .i64 p, .int .i64 E]) ∧ Said w' E ky nm y.2 fs y.1 xk xn xa xm xc xi xz xq xl ∧ Below w.heap.size w w'
def SaidW (w : World) (E : Int) (ky nm : ByteArray) (y : List StP × Int) (fs : List TaskP) (e : Ending) (w' : World) : Prop :=
 ∃ xk xn xa xm xc xi xz xq xl, e = .returned (.tuple #[.agg #[.string xk, .string xn, .slice xa xm xc, .int .i64 xi, .slice xz xq xl], .int .i64 E]) ∧ (∀ V, Turns (fun k => k < w.heap.size) w' V → Said V E ky nm y.2 fs y.1 xk xn xa xm xc xi xz xq xl) ∧ Below w.heap.size w w'
theorem ToldW.saidW {w w' : World} {E : Int} {ky nm : ByteArray} {y : List StP × Int} {fs : List TaskP} {e : Ending} (h : ToldW w E ky nm y.2 fs y.1 e w') : SaidW w E ky nm y fs e w' := by
 obtain ⟨xk, xn, xa, xm, xc, xi, xs, xq, xsc, xt, xz, h1, h2, h3, h4, h5⟩ := h
 exact ⟨_, _, _, _, _, _, _, _, _, h1, fun V t => ⟨xt, xz, h2 V t, h3, h4⟩, h5⟩
theorem SaidW.y {w w' : World} {E : Int} {ky nm : ByteArray} {y : List StP × Int} {fs : List TaskP} {e : Ending} (h : SaidW w E ky nm y fs e w') : SaidY w E ky nm y fs e w' := by
 obtain ⟨xk, xn, xa, xm, xc, xi, xs, xq, xsc, h1, h2, h3⟩ := h
 exact ⟨xk, xn, xa, xm, xc, xi, xs, xq, xsc, h1, h2 _ (Turns.refl _ _), h3⟩
theorem settleYW_any {V : World} {ky nm : ByteArray} {is : Int} {fs : List TaskP} {zs : List StP} {xk xn : ByteArray} {xa : Option Addr} {xm xc : Nat} {xi : Int} {xz : Option Addr} {xq xl : Nat} (hky : ky.size ≤ maxLen) (hx : Said V 0 ky nm is fs zs xk xn xa xm xc xi xz xq xl) (hOk : RunOk ky nm fs zs is) (now : Int) :
  Calls Try.prog 14 #[.agg #[.string xk, .string xn, .slice xa xm xc, .int .i64 xi, .slice xz xq xl], .int .i64 now] V fun e w' => SaidW V 0 ky nm (settleS fs (untF now []) (zs, is)) fs e w' := by
 obtain ⟨xt, xr, h1, h2, -⟩ := hx.it
 obtain ⟨rfl, rfl, rfl, rfl, rfl⟩ := h2 rfl
 refine (settle_any ky nm xa xm xc is xz xq xl xt zs now V h1.hT h1.hm h1.hZ h1.hq hOk).mono ?_
 rintro e w' ⟨g, h, m, cap, capS, tw, rfl, htw, hO, hb⟩
 refine ⟨_, _, _, _, _, _, _, _, _, rfl, fun W t => ?_, hb⟩
 have O := hO.turns t (fun k hk => hk)
 exact ⟨tw, _, ⟨O.hT, O.htn, O.row.isZ, O.hn⟩, fun _ => ⟨rfl, rfl, rfl, htw, rfl⟩, fun h => absurd rfl h⟩
theorem doneY_any {V : World} {ky nm : ByteArray} {is : Int} {fs : List TaskP} {zs : List StP} {xk xn : ByteArray} {xa : Option Addr} {xm xc : Nat} {xi : Int} {xz : Option Addr} {xq xl : Nat} (hky : ky.size ≤ maxLen) (hx : Said V 0 ky nm is fs zs xk xn xa xm xc xi xz xq xl) (hOk : RunOk ky nm fs zs is) (now k : Int) (r : ByteArray) (hr : r.size ≤ maxLen) (hk : wfJ k) :
  Calls Try.prog 24 #[.agg #[.string xk, .string xn, .slice xa xm xc, .int .i64 xi, .slice xz xq xl], .int .i64 now, .int .i64 k, .string r] V fun e w' => SaidW V (ansE fs (fun _ s => doneE s r) (settleS fs (untF now []) (zs, is)).1 k) ky nm (ansZ fs (fun _ s => doneT s r) (settleS fs (untF now []) (zs, is)).1 (settleS fs (untF now []) (zs, is)).2 k) fs e w' := by
 obtain ⟨xt, xr, h1, h2, -⟩ := hx.it
 obtain ⟨rfl, rfl, rfl, rfl, rfl⟩ := h2 rfl
 exact (doneW_any ky nm xa xm xc is xz xq xl xt zs now k r V hr hky hk h1.hT h1.hm h1.hZ h1.hq _ (by rw [if_pos (runB_iff.2 hOk)])).mono fun e w' h => h.saidW
theorem failY_any {V : World} {ky nm : ByteArray} {is : Int} {fs : List TaskP} {zs : List StP} {xk xn : ByteArray} {xa : Option Addr} {xm xc : Nat} {xi : Int} {xz : Option Addr} {xq xl : Nat} (hky : ky.size ≤ maxLen) (hx : Said V 0 ky nm is fs zs xk xn xa xm xc xi xz xq xl) (hOk : RunOk ky nm fs zs is) (now k : Int) (hk : wfJ k) :
  Calls Try.prog 25 #[.agg #[.string xk, .string xn, .slice xa xm xc, .int .i64 xi, .slice xz xq xl], .int .i64 now, .int .i64 k] V fun e w' => SaidW V (ansE fs (fun _ s => heldE s) (settleS fs (untF now []) (zs, is)).1 k) ky nm (ansZ fs (fun t s => failT t.tries t.wait s now) (settleS fs (untF now []) (zs, is)).1 (settleS fs (untF now []) (zs, is)).2 k) fs e w' := by
 obtain ⟨xt, xr, h1, h2, -⟩ := hx.it
 obtain ⟨rfl, rfl, rfl, rfl, rfl⟩ := h2 rfl
 exact (failW_any ky nm xa xm xc is xz xq xl xt zs now k V hky hk h1.hT h1.hm h1.hZ h1.hq _ (by rw [if_pos (runB_iff.2 hOk)])).mono fun e w' h => h.saidW
theorem rightY_any {V : World} {ky nm : ByteArray} {is : Int} {fs : List TaskP} {zs : List StP} {xk xn : ByteArray} {xa : Option Addr} {xm xc : Nat} {xi : Int} {xz : Option Addr} {xq xl : Nat} (hky : ky.size ≤ maxLen) (hnm : nm.size ≤ maxLen) (hx : Said V 0 ky nm is fs zs xk xn xa xm xc xi xz xq xl) :
  Calls Try.prog 15 #[.agg #[.string xk, .string xn, .slice xa xm xc, .int .i64 xi, .slice xz xq xl]] V fun e w' => e = .returned (.bool (runB ky nm fs zs is)) ∧ Below V.heap.size V w' := by
 obtain ⟨xt, xr, h1, h2, -⟩ := hx.it
 obtain ⟨rfl, rfl, rfl, rfl, rfl⟩ := h2 rfl
 exact refRight19_any ky nm xa xm xc is xz xq xl xt zs V hky hnm h1.hT h1.hm h1.hZ h1.hq
end Go.Proofs.Ytdpljpjbomhccaa
namespace Go.Proofs.Ytdpljpjbomhccaa
open Go.RowKit Go.Shelf Plain Anylast
set_option linter.unusedVariables false
attribute [local go_sem] Oper.semAt_some
def LeaseW (w : World) (E p : Int) (ky nm : ByteArray) (is : Int) (fs : List TaskP) (zs : List StP) (e : Ending) (w' : World) : Prop :=
 ∃ xk xn xa xm xc xi xs xq xsc xt xz, e = .returned (.tuple #[.agg #[.string xk, .string xn, .slice xa xm xc, .int .i64 xi, .slice xs xq xsc], .int .i64 p, .int .i64 E]) ∧ (∀ V, Turns (fun k => k < w.heap.size) w' V → XR V xa xm xc xs xq xsc xt xz) ∧
  (E = 0 → ky = xk ∧ nm = xn ∧ is = xi ∧ plainT xt = fs ∧ zs = xz) ∧
  (E ≠ 0 → ⟨#[]⟩ = xk ∧ ⟨#[]⟩ = xn ∧ none = xa ∧ 0 = xm ∧ 0 = xc ∧ 0 = xi ∧ none = xs ∧ 0 = xq ∧ 0 = xsc ∧ [] = xt ∧ [] = xz) ∧ Below w.heap.size w w'
theorem leaseW_zero {w w' : World} {E : Int} (hE : E ≠ 0) {ky nm : ByteArray} {is : Int} {fs : List TaskP} {zs : List StP} {e : Ending} (h : e = .returned (.tuple #[.agg #[.string ⟨#[]⟩, .string ⟨#[]⟩, .slice none 0 0, .int .i64 0, .slice none 0 0], .int .i64 0, .int .i64 E]) ∧ Below w.heap.size w w') : LeaseW w E 0 ky nm is fs zs e w' :=
 ⟨_, _, _, _, _, _, _, _, _, [], [], h.1, fun V _ => ⟨isT_nil _ _ _ (Nat.zero_le _), rfl, isZ_nil _ _ _ (Nat.zero_le _), rfl⟩, fun e => absurd e hE, fun _ => ⟨rfl, rfl, rfl, rfl, rfl, rfl, rfl, rfl, rfl, rfl, rfl⟩, h.2⟩
set_option maxRecDepth 20000 in
set_option maxHeartbeats 2000000 in
theorem leaseGoW_any (ky nm : ByteArray) (ta : Option Addr) (tn tc : Nat) (is : Int) (sa : Option Addr) (n sc : Nat) (tv : List TaskV) (ss : List StP) (now k : Int) (w : World) (hk : wfJ k) (hT : IsT w ta tc tv) (htn : tn = tv.length) (hZ : IsZ w sa sc ss) (hn : n = ss.length) (hOk : RunOk ky nm (plainT tv) ss is) (hk1 : 1 ≤ k) (hk2 : k ≤ 1099511627776) (hE : heldAt (settleS (plainT tv) (untF now []) (ss, is)).1 k = none) :
  Calls Try.prog 19 #[.agg #[.string ky, .string nm, .slice ta tn tc, .int .i64 is, .slice sa n sc], .int .i64 now, .int .i64 k] w fun e w' => LeaseW w (leaseRE (settleS (plainT tv) (untF now []) (ss, is)).1 now k) (leaseRP (settleS (plainT tv) (untF now []) (ss, is)).1 now k) ky nm (settleS (plainT tv) (untF now []) (ss, is)).2 (plainT tv) (leaseRZ (plainT tv) (settleS (plainT tv) (untF now []) (ss, is)).1 now k) e w' := by
 obtain ⟨W0, hW0⟩ : ∃ W0, W0 = boxes6 w ky nm ta tn tc is sa n sc now k := ⟨_, rfl⟩
 obtain ⟨hB0, hs0, B0⟩ := boxes6_is w ky nm ta tn tc is sa n sc now k
 rw [← hW0] at hB0 hs0 B0
 unfold boxes6 at hW0
 have cS := settle_any ky nm ta tn tc is sa n sc tv ss now W0 (hT.below hB0) htn (hZ.below hB0) hn hOk
 unfold SettledC at cS
 have hR9 := settle_right (tries_one hOk.dag) (u := untF now []) (x := (ss, is)) hOk.st
 generalize settleS (plainT tv) (untF now []) (ss, is) = SS at *
 obtain ⟨zs, zi⟩ := SS
 dsimp only at cS hR9 hE ⊢
 have HR : Hid (RightS (plainT tv) zs zi) := hR9
 have HE : Hid _ := hE
 clear hT htn hZ hn hOk hR9 hE
 refine (callsIn_wide (n := 3)).1 ?_
 refine callsIn_of_wp_marks Try.func19 rfl trivial ?_ rfl
 simp only [Try.ntmps19, List.size_toArray, List.length_cons, List.length_nil, Nat.reduceAdd, Nat.reduceSub, Array.replicate_succ, Array.replicate_zero, List.push_toArray, List.append_toArray, List.nil_append, List.cons_append]
 refine wpIn_seq_k (fun K hK => ?_); have HK : Shut _ := hK; clear hK; refine wpIn_wide.2 ?_
 go_wp2
 refine HK.out _ _ ?_; clear HK K
 rw [← hW0]
 clear hW0
 obtain ⟨z0, hz0⟩ : ∃ z, z = w.heap.size := ⟨_, rfl⟩
 obtain ⟨z1, hz1⟩ : ∃ z, z = z0 + 1 := ⟨_, rfl⟩
 obtain ⟨z2, hz2⟩ : ∃ z, z = z1 + 1 := ⟨_, rfl⟩
 obtain ⟨z3, hz3⟩ : ∃ z, z = z2 + 1 := ⟨_, rfl⟩
 obtain ⟨z4, hz4⟩ : ∃ z, z = z3 + 1 := ⟨_, rfl⟩
 obtain ⟨z5, hz5⟩ : ∃ z, z = z4 + 1 := ⟨_, rfl⟩
 rw [← hz0, ← hz1, ← hz2, ← hz3, ← hz4, ← hz5] at B0 ⊢
 have HZZ : Hid (z0 = w.heap.size ∧ z1 = z0 + 1 ∧ z2 = z1 + 1 ∧ z3 = z2 + 1 ∧ z4 = z3 + 1 ∧ z5 = z4 + 1) := ⟨hz0, hz1, hz2, hz3, hz4, hz5⟩
 clear hz0 hz1 hz2 hz3 hz4 hz5
 have f0 := B0.box.1 0 _ rfl; have f1 := B0.box.1 1 _ rfl; have f2 := B0.box.1 2 _ rfl; have f3 := B0.box.1 3 _ rfl; have f4 := B0.box.1 4 _ rfl
 have n0 := B0.now.1 0 _ rfl
 refine wpIn_seq_k (fun K hK => ?_); have HK : Shut _ := hK; clear hK; refine wpIn_wide.2 ?_
 go_wp2_with (go_at_call 14; refine cS.mono ?_; rintro e w1 ⟨g, h, m, cap, capS, tw, rfl, htw, hO, hb⟩; have B1 := B0.below hb; have hB1 := Below.tr hB0 hb; have HTW : Hid (plainT tw = plainT tv) := htw; clear htw; have v0 := B1.box.1 0 _ rfl; have v1 := B1.box.1 1 _ rfl; have v2 := B1.box.1 2 _ rfl; have v3 := B1.box.1 3 _ rfl; have v4 := B1.box.1 4 _ rfl; have d0 := B1.box.2 0 (by simp); have d1 := B1.box.2 1 (by simp); have d2 := B1.box.2 2 (by simp); have d3 := B1.box.2 3 (by simp); have d4 := B1.box.2 4 (by simp))
 refine HK.out _ _ ?_; clear HK K
 obtain ⟨Z, hZ9⟩ : ∃ Z, Z = (((((w1.setCell ⟨z0, 0, none⟩ (.string ky)).setCell ⟨z0, 1, none⟩ (.string nm)).setCell ⟨z0, 2, none⟩ (.slice (some ⟨g, 0, none⟩) m cap)).setCell ⟨z0, 3, none⟩ (.int .i64 zi)).setCell ⟨z0, 4, none⟩ (.slice (some ⟨h, 0, none⟩) m capS)) := ⟨_, rfl⟩
 have TZ : Turns (fun k => k = z0) w1 Z := by rw [hZ9]; exact turns_set5 _ _ _ _ _ _ _
 have bZ : BoxL Z z0 [.string ky, .string nm, .slice (some ⟨g, 0, none⟩) m cap, .int .i64 zi, .slice (some ⟨h, 0, none⟩) m capS] := by rw [hZ9]; exact boxL_set5 B1.box _ _ _ _ _
 have BZ := by have := HZZ.out; exact B1.set TZ bZ (by omega) (by omega) (by omega) (by omega) (by omega)
 have hBZ := Below.turns hB1 TZ (fun k hk => by have := HZZ.out; omega)
 rw [← hZ9]
 clear f0 f1 f2 f3 f4 n0 v0 v1 v2 v3 v4 d0 d1 d2 d3 d4 hZ9 bZ
 have OZ := hO.turns TZ (fun k hk => by have := HZZ.out; omega)
 have cT : ∀ V, Below Z.heap.size Z V → Calls Try.prog 49 #[.slice (some ⟨h, 0, none⟩) m capS] V fun e w' => ∃ b, e = .returned (.map (some b)) ∧ IsTok w' b (candL [2] zs) ∧ Below V.heap.size V w' := fun V hV => tokens_any _ _ _ zs V (OZ.row.isZ.below hV) OZ.hn fun s hs => by
  obtain ⟨i, hi⟩ := List.mem_iff_getElem?.1 hs
  obtain ⟨t, ht⟩ := HR.out.task hi
  have := (right_held (HR.out.each i s t hi ht).right).1
  exact wfJ_of (by omega)
 obtain ⟨D0, hD0⟩ : ∃ D, D = Z.drew := ⟨_, rfl⟩
 have hBD : Below Z.heap.size Z D0 := by rw [hD0]; exact (Below.refl _ _).drew
 have BD := BZ.below hBD
 have q4 := BD.box.1 4 _ rfl
 have q2 := BD.tok.1 0 _ rfl
 refine wpIn_seq_k (fun K hK => ?_); have HK : Shut _ := hK; clear hK; refine wpIn_wide.2 ?_
 go_wp2
 refine HK.out _ _ ?_; clear HK K
 refine wpIn_seq_k (fun K hK => ?_); have HK : Shut _ := hK; clear hK; refine wpIn_wide.2 ?_
 refine hideQ (fun Q9 hQ9 => ?_); have HQ9 : Shut _ := hQ9; clear hQ9
 refine wp_seq_k (fun K hK => ?_); have HK : Shut _ := hK; clear hK
 refine wp_region_noPanic ?_
 refine wp_region_held_drew (S := fun V => V.cell? ⟨z0, 4, none⟩ = some (.slice (some ⟨h, 0, none⟩) m capS) ∧ V.cell? ⟨z2, 0, none⟩ = some (.int .i64 k)) (by kernel_rfl) (by rw [← hD0]; exact ⟨q4, q2⟩) (fun hHeld => ?_)
 rw [← hD0] at hHeld ⊢
 clear hD0
 refine take_at (i := 0) (v := ?_) rfl (by kernel_rfl) (by kernel_rfl) (by kernel_rfl) (fun _ _ _ h => h) (Or.inl ⟨by rfl, ?_⟩) (by assumption) ?_
 rotate_left 1
 ·
  (intro w hSw; (try dsimp only at hSw); go_simp; (try with_reducible rfl))
 try go_frame
 refine take_at (i := 1) (v := ?_) rfl (by kernel_rfl) (by kernel_rfl) (by kernel_rfl) (fun _ _ _ h => h) (Or.inl ⟨by rfl, ?_⟩) (by assumption) ?_
 rotate_left 1
 ·
  (intro w hSw; (try dsimp only at hSw); go_simp; (try with_reducible rfl))
 try go_frame
 refine take_at (i := 3) (v := ?_) rfl (by kernel_rfl) (by kernel_rfl) (by kernel_rfl) (fun _ _ _ h => h) (Or.inl ⟨by rfl, ?_⟩) (by assumption) ?_
 rotate_left 1
 ·
  (intro w hSw; (try dsimp only at hSw); go_simp; (try with_reducible rfl))
 try go_frame
 refine wpAnyH_ready (rs := [2]) (by kernel_rfl) (by simp) ?_
 refine cons_at (i := 2) rfl (fun K hK => ?_) AllReadyH.nil
 go_simp
 (go_at_call 49; refine (cT _ hBD).mono ?_; rintro e w2 ⟨b, rfl, ht, hb2⟩; have B2 := BD.below hb2; have hBT := Below.tr hBD hb2; have hlook := ht.look (x := k) hk; rw [tokF_held (right_apart HR.out)] at hlook; obtain ⟨HA, hHA⟩ : ∃ a, a = heldAt zs k := ⟨_, rfl⟩; rw [← hHA] at hlook; have HHA : Hid (HA = heldAt zs k) := hHA; clear hHA ht; have q4 := B2.box.1 4 _ rfl; have q2 := B2.tok.1 0 _ rfl)
 refine hK.out _ _ ⟨q4, q2⟩ (fun hHeld => ?_)
 clear hK K
 refine wpAnyH_ready (rs := [4]) (by kernel_rfl) (by simp) ?_
 refine cons_at (i := 4) rfl (fun K hK => ?_) AllReadyH.nil
 go_simp
 refine hK.out _ _ ⟨q4, q2⟩ (fun hHeld => ?_)
 clear hK K
 refine take_at (i := 5) (v := ?_) rfl (by kernel_rfl) (by kernel_rfl) (by kernel_rfl) (fun _ _ _ h => h) (Or.inl ⟨by rfl, ?_⟩) (by assumption) ?_
 rotate_left 1
 ·
  (intro w hSw; (try dsimp only at hSw); go_simp; (try with_reducible rfl))
 try go_frame
 refine take_at (i := 6) (v := ?_) rfl (by kernel_rfl) (by kernel_rfl) (by kernel_rfl) (fun _ _ _ h => h) (Or.inl ⟨by rfl, ?_⟩) (by assumption) ?_
 rotate_left 1
 ·
  (intro w hSw; (try dsimp only at hSw); go_simp; (try with_reducible rfl))
 try go_frame
 refine take_at (i := 7) (v := ?_) rfl (by kernel_rfl) (by kernel_rfl) (by kernel_rfl) (fun _ _ _ h => h) (Or.inl ⟨by rfl, ?_⟩) (by assumption) ?_
 rotate_left 1
 ·
  (intro w hSw; (try dsimp only at hSw); go_simp; (try with_reducible rfl))
 try go_frame
 refine take_at (i := 8) (v := ?_) rfl (by kernel_rfl) (by kernel_rfl) (by kernel_rfl) (fun _ _ _ h => h) (Or.inl ⟨by rfl, ?_⟩) (by assumption) ?_
 rotate_left 1
 ·
  (intro w hSw; (try dsimp only at hSw); go_simp; (try with_reducible rfl))
 try go_frame
 refine take_at (i := 9) (v := ?_) rfl (by kernel_rfl) (by kernel_rfl) (by kernel_rfl) (fun _ _ _ h => h) (Or.inl ⟨by rfl, ?_⟩) (by assumption) ?_
 rotate_left 1
 ·
  (intro w hSw; (try dsimp only at hSw); go_simp; (try with_reducible rfl))
 try go_frame
 refine wpAnyH_done (by kernel_rfl) ?_ _
 refine NoPanic.normal ?_
 refine HK.out _ _ ?_; clear HK K
 clear hlook hHeld
 obtain rfl : HA = none := by rw [HHA.out]; exact HE.out
 have h1 : ¬ k < 1 := by omega
 have h2 : ¬ (1099511627776 : Int) < k := by omega
 go_wp2
 refine HQ9.out _ _ _ (HK.out _ _ ?_)
 clear HQ9 HK K h1 h2
 obtain ⟨W1, hW1⟩ : ∃ W1, W1 = ((w2.alloc (.cells #[.int .i64 1] 3)).alloc (.cells #[.slice (some ⟨h, 0, none⟩) m capS] 25)).alloc (.cells #[.slice (some ⟨w2.heap.size, 0, none⟩) 1 1] 48) := ⟨_, rfl⟩
 have hBW : Below w2.heap.size w2 W1 := by rw [hW1]; exact bel3 w2 _ _ _
 have hs1 : W1.heap.size = w2.heap.size + 3 := by rw [hW1]; simp
 have B3 := B2.below hBW
 have O3 := (OZ.below hBT).below hBW
 have L : LoopT W1 (w2.heap.size + 1) (w2.heap.size + 1 + 1) (some ⟨h, 0, none⟩) m capS (some ⟨w2.heap.size, 0, none⟩) 1 1 [1] zs := by
  refine ⟨?_, ?_, ?_, O3.row.isZ, O3.hn⟩
  ·
   rw [hW1]; exact cell_alloc (World.cell?_alloc_at _ _ _ _ (by simp)) _
  ·
   rw [hW1]; exact World.cell?_alloc_at _ _ _ _ (by simp)
  ·
   rw [hW1]; exact (isI_one w2 1).below (bel2 _ _ _)
 have hH := those1_hands (3 - 1) (by omega) (w2.heap.size + 1) (w2.heap.size + 1 + 1) (some ⟨h, 0, none⟩) m capS (some ⟨w2.heap.size, 0, none⟩) 1 1 [1] zs O3.hn rfl W1
 have hB3 : Below w.heap.size w W1 := Below.tr (Below.tr hBZ hBT) hBW
 have hlt : w2.heap.size ≤ W1.heap.size := by omega
 have hB0z : w.heap.size ≤ W0.heap.size := hB0.size
 have HHH : Hid (W0.heap.size ≤ g ∧ g < h ∧ h < w2.heap.size ∧ z5 < W0.heap.size) := ⟨O3.hg, O3.hgh, by have := (OZ.below hBT).row.lt; omega, by have := HZZ.out; omega⟩
 clear B0 B1 BZ BD B2 hO OZ TZ cS cT hBD hBT hb hb2 hBW hB0 hB1 hBZ
 gi_wp2_with (refine ⟨trivial, ?_⟩; gi_at_call 50; refine (thoseR_any _ _ _ _ _ _ _ _).mono ?_; rintro e w3 ⟨rfl, rfl⟩)
 rw [← hW1]
 clear hW1 q2 q4
 refine range_states (fun a x bx => { tmps := (((a.tmps.setIfInBounds 48 (.int .i64 x.1)).setIfInBounds 49 (.agg #[.int .i64 x.2.i, .int .i64 x.2.t, .int .i64 x.2.d, .int .i64 x.2.k, .string x.2.r])).setIfInBounds 12 (.int .i64 x.1)).setIfInBounds 13 (.pointer (some ⟨bx, 0, none⟩)), defers := [] }) rfl (enters_of Try.func84 (by kernel_rfl) rfl) hH (fun _ => rfl)
  (fun pre V => Turns (fun k => W1.heap.size ≤ k) W1 V ∧ ∀ y ∈ pre, ¬ y.2.d ≤ untF now [])
  (fun c _ V => c = Code.ret ∧ Fin1 W1 V z3 z4 z5 h g m cap capS tw ky nm zi zs now k)
  (ownFrom_turns fun s V V' hh t => ⟨hh.1.trans t, hh.2⟩)
  (fun c => ownFrom_turns fun s V V' hh t => ⟨hh.1, hh.2.grown t (by have := HZZ.out; have := HHH.out; omega) (by have := HZZ.out; have := HHH.out; omega)⟩)
  (fun pre V hh => L.good hh.1 (by omega) (by omega) (fun _ x hx => by cases hx; show ¬ (W1.heap.size ≤ w2.heap.size); omega) (fun _ x hx => by cases hx; show ¬ (W1.heap.size ≤ h); have := HHH.out; omega) pre)
  ⟨Turns.refl _ _, fun y hy => by cases hy⟩ ?assign ?body ?done ?stop
 case assign =>
  rintro l pre x V K hi hpre hK
  dsimp only [encZ]
  obtain ⟨x1, i, t, d, kk, r⟩ := x
  dsimp only at *
  gi_wp2
  exact hK _ _ _ (keeps_below ((Below.refl _ _).alloc (Nat.le_refl _) _)) ⟨hi.1.alloc _, hi.2⟩ hi.1.size (boxL_new V _ _ rfl) rfl
 case body =>
  rintro l pre ⟨x1, si, st, sd, sk, sr⟩ bx V ⟨t, hpd⟩ h1 bX hpre
  dsimp only at *
  simp only [List.setIfInBounds_toArray, List.set_cons_zero, List.set_cons_succ]
  obtain ⟨hx1, hx2, hpe⟩ := cand_next hpre
  obtain rfl : si = 1 := by simpa using hx2
  have BV := B3.turns t (by have := HZZ.out; have := HHH.out; omega) (by have := HZZ.out; have := HHH.out; omega) (by have := HZZ.out; have := HHH.out; omega) (by have := HZZ.out; have := HHH.out; omega) (by have := HZZ.out; have := HHH.out; omega) (by have := HZZ.out; have := HHH.out; omega)
  have OV := O3.renew t (fun k hk => .inr (.inr hk)) (O3.row.turns t (by have := HHH.out; omega)) rfl
  have hil : x1 < zs.length := (List.getElem?_eq_some_iff.1 hx1).1
  obtain ⟨tt, htt⟩ : ∃ tt, tw[x1]? = some tt := ⟨_, List.getElem?_eq_getElem (by rw [← OV.htn, OV.hn]; exact hil)⟩
  have hin : x1 < m := by rw [OV.hn]; exact hil
  have hin' : (x1 : Int) < m := by omega
  obtain ⟨y0, y1, y2, y3, -⟩ := OV.hT.at htt
  rw [Nat.zero_add] at y0 y1 y2 y3
  obtain ⟨XX, hXX⟩ : ∃ XX, XX = leaseT tt.le ⟨1, st, sd, sk, sr⟩ now k := ⟨_, rfl⟩
  obtain ⟨EE, hEE⟩ : ∃ EE, EE = leaseE ⟨1, st, sd, sk, sr⟩ now k := ⟨_, rfl⟩
  have hXt : XX.r.size ≤ maxLen := by
   rw [hXX]; unfold leaseT; split
   ·
    have hsr := O3.row.isZ.text hx1
    exact hsr
   ·
    exact Nat.zero_le _
  have cL := fun W => leaseT_any tt.a tt.ns.length tt.c tt.tr tt.wt tt.le 1 st sd sk sr now k W
  rw [← hXX, ← hEE] at cL
  have hAt : leaseAt (plainT tw) zs now k x1 = zs.set x1 XX := by
   unfold leaseAt; rw [hx1, plainT_get htt, hXX]; rfl
  obtain ⟨xi, xt, xd, xk, xr⟩ := XX
  dsimp only [vT] at cL hXt
  have HX : Hid (EE = leaseE ⟨1, st, sd, sk, sr⟩ now k ∧ leaseAt (plainT tw) zs now k x1 = zs.set x1 ⟨xi, xt, xd, xk, xr⟩) := ⟨hEE, hAt⟩
  clear hXX hEE hAt
  obtain ⟨ta', hta⟩ : ∃ a, a = tt.a := ⟨_, rfl⟩
  obtain ⟨tl, htl⟩ : ∃ a, a = tt.ns.length := ⟨_, rfl⟩
  obtain ⟨tcc, htcc⟩ : ∃ a, a = tt.c := ⟨_, rfl⟩
  obtain ⟨ttr, httr⟩ : ∃ a, a = tt.tr := ⟨_, rfl⟩
  obtain ⟨twt, htwt⟩ : ∃ a, a = tt.wt := ⟨_, rfl⟩
  obtain ⟨tle, htle⟩ : ∃ a, a = tt.le := ⟨_, rfl⟩
  rw [← hta, ← htl, ← htcc] at y0
  rw [← httr] at y1
  rw [← htwt] at y2
  rw [← htle] at y3
  rw [← hta, ← htl, ← htcc, ← httr, ← htwt, ← htle] at cL
  clear hta htl htcc httr htwt htle htt
  have HC : ∀ W, Below V.heap.size V W → W.cell? ⟨z0, 2, none⟩ = some (.slice (some ⟨g, 0, none⟩) m cap) ∧ (W.cell? ⟨g, x1 * 4, none⟩ = some (.slice ta' tl tcc) ∧ W.cell? ⟨g, x1 * 4 + 1, none⟩ = some (.int .i64 ttr) ∧ W.cell? ⟨g, x1 * 4 + 2, none⟩ = some (.int .i64 twt) ∧ W.cell? ⟨g, x1 * 4 + 3, none⟩ = some (.int .i64 tle)) ∧ (W.cell? ⟨bx, 0, none⟩ = some (.int .i64 1) ∧ W.cell? ⟨bx, 1, none⟩ = some (.int .i64 st) ∧ W.cell? ⟨bx, 2, none⟩ = some (.int .i64 sd) ∧ W.cell? ⟨bx, 3, none⟩ = some (.int .i64 sk) ∧ W.cell? ⟨bx, 4, none⟩ = some (.string sr)) ∧ W.cell? ⟨z1, 0, none⟩ = some (.int .i64 now) ∧ W.cell? ⟨z2, 0, none⟩ = some (.int .i64 k) := fun W hW =>
   ⟨(BV.below hW).box.1 2 _ rfl, ⟨cell_below hW y0, cell_below hW y1, cell_below hW y2, cell_below hW y3⟩, ⟨(bX.below hW).1 0 _ rfl, (bX.below hW).1 1 _ rfl, (bX.below hW).1 2 _ rfl, (bX.below hW).1 3 _ rfl, (bX.below hW).1 4 _ rfl⟩, (BV.below hW).now.1 0 _ rfl, (BV.below hW).tok.1 0 _ rfl⟩
  have hmc : m ≤ cap ∧ cap ≤ 9223372036854775807 := by have a1 := OV.hT.1; have a2 := OV.hT.2.1; rw [← OV.htn] at a1; exact ⟨a1, a2⟩
  obtain ⟨hmc1, hmc2⟩ := hmc
  clear y0 y1 y2 y3
  refine wpIn_block ?_
  refine wpIn_seq_k (fun K hK => ?_); have HK : Shut _ := hK; clear hK
  refine round_held (by kernel_rfl) (by kernel_rfl) (fun W => W.cell? ⟨z0, 2, none⟩ = some (.slice (some ⟨g, 0, none⟩) m cap) ∧ (W.cell? ⟨g, x1 * 4, none⟩ = some (.slice ta' tl tcc) ∧ W.cell? ⟨g, x1 * 4 + 1, none⟩ = some (.int .i64 ttr) ∧ W.cell? ⟨g, x1 * 4 + 2, none⟩ = some (.int .i64 twt) ∧ W.cell? ⟨g, x1 * 4 + 3, none⟩ = some (.int .i64 tle)) ∧ (W.cell? ⟨bx, 0, none⟩ = some (.int .i64 1) ∧ W.cell? ⟨bx, 1, none⟩ = some (.int .i64 st) ∧ W.cell? ⟨bx, 2, none⟩ = some (.int .i64 sd) ∧ W.cell? ⟨bx, 3, none⟩ = some (.int .i64 sk) ∧ W.cell? ⟨bx, 4, none⟩ = some (.string sr)) ∧ W.cell? ⟨z1, 0, none⟩ = some (.int .i64 now) ∧ W.cell? ⟨z2, 0, none⟩ = some (.int .i64 k)) (HC _ (Below.refl _ _).drew) (fun hHeld => ?_)
  obtain ⟨V0, hV0⟩ : ∃ V0, V0 = V.drew := ⟨_, rfl⟩
  have hbV : Below V.heap.size V V0 := by rw [hV0]; exact (Below.refl _ _).drew
  have hsV : V.heap.size ≤ V0.heap.size := hbV.size
  rw [← hV0] at hHeld ⊢
  clear hV0
  refine take_at (i := 0) (v := ?_) rfl (by kernel_rfl) (by kernel_rfl) (by kernel_rfl) (fun _ _ _ h => h) (Or.inl ⟨by rfl, ?_⟩) (by assumption) ?_
  rotate_left 1
  ·
   (intro w hSw; (try dsimp only at hSw); go_simp; (try with_reducible rfl))
  try go_frame
  refine take_at (i := 1) (v := ?_) rfl (by kernel_rfl) (by kernel_rfl) (by kernel_rfl) (fun _ _ _ h => h) (Or.inl ⟨by rfl, ?_⟩) (by assumption) ?_
  rotate_left 1
  ·
   (intro w hSw; (try dsimp only at hSw); go_simp; (try with_reducible rfl))
  try go_frame
  refine take_at (i := 2) (v := ?_) rfl (by kernel_rfl) (by kernel_rfl) (by kernel_rfl) (fun _ _ _ h => h) (Or.inl ⟨by rfl, ?_⟩) (by assumption) ?_
  rotate_left 1
  ·
   (intro w hSw; (try dsimp only at hSw); go_simp; (try with_reducible rfl))
  try go_frame
  refine take_at (i := 3) (v := ?_) rfl (by kernel_rfl) (by kernel_rfl) (by kernel_rfl) (fun _ _ _ h => h) (Or.inl ⟨by rfl, ?_⟩) (by assumption) ?_
  rotate_left 1
  ·
   (intro w hSw; (try dsimp only at hSw); go_simp; (try with_reducible rfl))
  try go_frame
  refine take_at (i := 4) (v := ?_) rfl (by kernel_rfl) (by kernel_rfl) (by kernel_rfl) (fun _ _ _ h => h) (Or.inl ⟨by rfl, ?_⟩) (by assumption) ?_
  rotate_left 1
  ·
   (intro w hSw; (try dsimp only at hSw); go_simp; (try with_reducible rfl))
  try go_frame
  refine take_at (i := 5) (v := ?_) rfl (by kernel_rfl) (by kernel_rfl) (by kernel_rfl) (fun _ _ _ h => h) (Or.inl ⟨by rfl, ?_⟩) (by assumption) ?_
  rotate_left 1
  ·
   (intro w hSw; (try dsimp only at hSw); go_simp; (try with_reducible rfl))
  try go_frame
  refine take_at (i := 6) (v := ?_) rfl (by kernel_rfl) (by kernel_rfl) (by kernel_rfl) (fun _ _ _ h => h) (Or.inl ⟨by rfl, ?_⟩) (by assumption) ?_
  rotate_left 1
  ·
   (intro w hSw; (try dsimp only at hSw); go_simp; (try with_reducible rfl))
  try go_frame
  refine take_at (i := 7) (v := ?_) rfl (by kernel_rfl) (by kernel_rfl) (by kernel_rfl) (fun _ _ _ h => h) (Or.inl ⟨by rfl, ?_⟩) (by assumption) ?_
  rotate_left 1
  ·
   (intro w hSw; (try dsimp only at hSw); go_simp; (try with_reducible rfl))
  try go_frame
  refine take_at (i := 8) (v := ?_) rfl (by kernel_rfl) (by kernel_rfl) (by kernel_rfl) (fun _ _ _ h => h) (Or.inl ⟨by rfl, ?_⟩) (by assumption) ?_
  rotate_left 1
  ·
   (intro w hSw; (try dsimp only at hSw); go_simp; (try with_reducible rfl))
  try go_frame
  refine wpAnyH_ready (rs := [9, 13]) (by kernel_rfl) (by simp) ?_
  refine cons_at (i := 9) rfl (fun K9 hK => ?_) (cons_at (i := 13) rfl (fun K9 hK => ?_) AllReadyH.nil)
  ·
   go_simp
   (go_at_call 51; refine (cL _).mono ?_; rintro e w4 ⟨rfl, hb4⟩)
   have hB4 := Below.tr hbV hb4
   refine hK.out _ _ (HC _ hB4) (fun hHeld => ?_)
   clear hK K9
   refine take_at (i := 10) (v := ?_) rfl (by kernel_rfl) (by kernel_rfl) (by kernel_rfl) (fun _ _ _ h => h) (Or.inl ⟨by rfl, ?_⟩) (by assumption) ?_
   rotate_left 1
   ·
    (intro w hSw; (try dsimp only at hSw); go_simp; (try with_reducible rfl))
   try go_frame
   refine take_at (i := 11) (v := ?_) rfl (by kernel_rfl) (by kernel_rfl) (by kernel_rfl) (fun _ _ _ h => h) (Or.inl ⟨by rfl, ?_⟩) (by assumption) ?_
   rotate_left 1
   ·
    (intro w hSw; (try dsimp only at hSw); go_simp; (try with_reducible rfl))
   try go_frame
   refine take_at (i := 12) (v := ?_) rfl (by kernel_rfl) (by kernel_rfl) (by kernel_rfl) (fun _ _ _ h => h) (Or.inl ⟨by rfl, ?_⟩) (by assumption) ?_
   rotate_left 1
   ·
    (intro w hSw; (try dsimp only at hSw); go_simp; (try with_reducible rfl))
   try go_frame
   refine wpAnyH_ready (rs := [13]) (by kernel_rfl) (by simp) ?_
   refine cons_at (i := 13) rfl (fun K hK => ?_) AllReadyH.nil
   go_simp
   obtain ⟨A, hA⟩ : ∃ A, A = w4.alloc (.cells #[.int .i64 0, .int .i64 0, .int .i64 0, .int .i64 0, .string ⟨#[]⟩] 52) := ⟨_, rfl⟩
   have hBA : Below V.heap.size V A := by rw [hA]; exact hB4.alloc hB4.size _
   have bA : BoxL A w4.heap.size [.int .i64 0, .int .i64 0, .int .i64 0, .int .i64 0, .string ⟨#[]⟩] := by rw [hA]; exact boxL_new w4 [.int .i64 0, .int .i64 0, .int .i64 0, .int .i64 0, .string ⟨#[]⟩] _ rfl
   rw [← hA]
   refine hK.out _ _ (HC _ hBA) (fun hHeld => ?_)
   clear hK K hA
   have hzV : V.heap.size ≤ w4.heap.size := hB4.size
   obtain ⟨Y, hY⟩ : ∃ Y, Y = (((((A.setCell ⟨w4.heap.size, 0, none⟩ (.int .i64 xi)).setCell ⟨w4.heap.size, 1, none⟩ (.int .i64 xt)).setCell ⟨w4.heap.size, 2, none⟩ (.int .i64 xd)).setCell ⟨w4.heap.size, 3, none⟩ (.int .i64 xk)).setCell ⟨w4.heap.size, 4, none⟩ (.string xr)) := ⟨_, rfl⟩
   have bY : BoxL Y w4.heap.size [.int .i64 xi, .int .i64 xt, .int .i64 xd, .int .i64 xk, .string xr] := by rw [hY]; exact boxL_set5 bA _ _ _ _ _
   have hBY : Below V.heap.size V Y := by rw [hY]; exact below_setT hBA (by omega) _ _ _ _ _
   have u0 := bA.1 0 _ rfl; have u1 := bA.1 1 _ rfl; have u2 := bA.1 2 _ rfl; have u3 := bA.1 3 _ rfl; have u4 := bA.1 4 _ rfl
   have v0 := bA.2 0 (by simp); have v1 := bA.2 1 (by simp); have v2 := bA.2 2 (by simp); have v3 := bA.2 3 (by simp); have v4 := bA.2 4 (by simp)
   refine wpAnyH_ready (rs := [14]) (by kernel_rfl) (by simp) ?_
   refine cons_at (i := 14) rfl (fun K hK => ?_) AllReadyH.nil
   go_simp
   rw [← hY]
   refine hK.out _ _ (HC _ hBY) (fun hHeld => ?_)
   clear hK K hY
   refine take_at (i := 15) (v := ?_) rfl (by kernel_rfl) (by kernel_rfl) (by kernel_rfl) (fun _ _ _ h => h) (Or.inl ⟨by rfl, ?_⟩) (by assumption) ?_
   rotate_left 1
   ·
    (intro w hSw; (try dsimp only at hSw); go_simp; (try with_reducible rfl))
   try go_frame
   refine wpAnyH_done (by kernel_rfl) ?_ _
   refine HK.out _ _ ?_
   clear HK K hHeld u0 u1 u2 u3 u4 v0 v1 v2 v3 v4 bA hBA
   generalize w4.heap.size = zz at *
   clear hB4 hb4
   have BY := BV.below hBY
   have OY := OV.below hBY
   clear BV OV bX hbV hsV HC cL
   by_cases hd : sd ≤ untF now []
   ·
    obtain rfl : EE = 0 := by rw [HX.out.1]; unfold leaseE; rw [if_pos ⟨hk1, hk2⟩, if_pos ⟨rfl, hd⟩]
    have hdue : Hid (dueAt zs (untF now []) = some x1) := idx_is hx1 (decide_eq_true ⟨rfl, hd⟩) fun j hj v hv => decide_eq_false fun hh => hpd (j, v) (by rw [hpe]; exact mem_candTo hv (by rw [hh.1]; simp) hj) hh.2
    clear hpd hpe hd hpre hx1 hx2
    refine wpIn_seq_k (fun K hK => ?_); have HK : Shut _ := hK; clear hK
    gi_wp2
    refine HK.out _ _ ?_
    clear HK K
    refine wpIn_cond (t := true) rfl ?_
    rw [if_pos rfl]
    refine wpIn_seq_k (fun K hK => ?_); have HK : Shut _ := hK; clear hK
    have q4 := BY.box.1 4 _ rfl
    have b0 := bY.1 0 _ rfl; have b1 := bY.1 1 _ rfl; have b2 := bY.1 2 _ rfl; have b3 := bY.1 3 _ rfl; have b4 := bY.1 4 _ rfl
    obtain ⟨r0, r1, r2, r3, r4⟩ := OY.row.frees hil
    have hcs : m ≤ capS ∧ capS ≤ 9223372036854775807 := by have a1 := OY.row.isZ.1; have a2 := OY.row.isZ.2.1; rw [← OY.hn] at a1; exact ⟨a1, a2⟩
    obtain ⟨hcs1, hcs2⟩ := hcs
    obtain ⟨o0, o1, o2, o3, o4⟩ := OY.row.at (List.getElem?_eq_getElem hil)
    rw [Nat.zero_add] at r0 r1 r2 r3 r4 o0 o1 o2 o3 o4
    gi_wp2
    obtain ⟨Y1, hY1⟩ : ∃ Y1, Y1 = put5 Y h (x1 * 5) ⟨xi, xt, xd, xk, xr⟩ := ⟨_, rfl⟩
    have RY1 := OY.row.put hil ⟨xi, xt, xd, xk, xr⟩ hXt
    rw [Nat.zero_add, ← hY1] at RY1
    have T1 : Turns (fun k => k = h) Y Y1 := by rw [hY1]; exact put5_turns _ _ _ _
    unfold put5 at hY1
    dsimp only at hY1
    have K1 : KeepsFrom W1.heap.size V Y1 := (keeps_below hBY).trans (by rw [hY1]; exact keeps_set5 _ _ _ _ _ _ _ _ _ _ _ _ _)
    rw [← hY1]
    refine HK.out _ _ ?_
    clear HK K hY1 q4 b0 b1 b2 b3 b4 r0 r1 r2 r3 r4 o0 o1 o2 o3 o4
    have BZ := BY.turns T1 (by have := HZZ.out; have := HHH.out; omega) (by have := HZZ.out; have := HHH.out; omega) (by have := HZZ.out; have := HHH.out; omega) (by have := HZZ.out; have := HHH.out; omega) (by have := HZZ.out; have := HHH.out; omega) (by have := HZZ.out; have := HHH.out; omega)
    clear BY OY
    have p0 := BZ.box.1 0 _ rfl; have p1 := BZ.box.1 1 _ rfl; have p2 := BZ.box.1 2 _ rfl; have p3 := BZ.box.1 3 _ rfl; have p4 := BZ.box.1 4 _ rfl
    have y0 := BZ.res.1 0 _ rfl; have y1 := BZ.res.1 1 _ rfl; have y2 := BZ.res.1 2 _ rfl; have y3 := BZ.res.1 3 _ rfl; have y4 := BZ.res.1 4 _ rfl
    have s0 := BZ.res.2 0 (by simp); have s1 := BZ.res.2 1 (by simp); have s2 := BZ.res.2 2 (by simp); have s3 := BZ.res.2 3 (by simp); have s4 := BZ.res.2 4 (by simp)
    have y5 := BZ.at_.1 0 _ rfl
    have y6 := BZ.err.1 0 _ rfl
    have s5 := BZ.at_.2 0 (by simp)
    have s6 := BZ.err.2 0 (by simp)
    have e1 : ¬ z3 = z4 := by have := HZZ.out; omega
    have e2 : ¬ z4 = z3 := by have := HZZ.out; omega
    have e3 : ¬ z3 = z5 := by have := HZZ.out; omega
    have e4 : ¬ z5 = z3 := by have := HZZ.out; omega
    have e5 : ¬ z4 = z5 := by have := HZZ.out; omega
    have e6 : ¬ z5 = z4 := by have := HZZ.out; omega
    refine wpIn_seq_k (fun K hK => ?_); have HK : Shut _ := hK; clear hK
    gi_wp2
    refine HK.out _ _ ?_
    clear HK K
    obtain ⟨Z2, hZ2⟩ : ∃ Z2, Z2 = ((((((Y1.setCell ⟨z3, 0, none⟩ (.string ky)).setCell ⟨z3, 1, none⟩ (.string nm)).setCell ⟨z3, 2, none⟩ (.slice (some ⟨g, 0, none⟩) m cap)).setCell ⟨z3, 3, none⟩ (.int .i64 zi)).setCell ⟨z3, 4, none⟩ (.slice (some ⟨h, 0, none⟩) m capS)).setCell ⟨z4, 0, none⟩ (.int .i64 x1)).setCell ⟨z5, 0, none⟩ (.int .i64 0) := ⟨_, rfl⟩
    obtain ⟨c3, c4, c5, T2⟩ := fin3 BZ.res BZ.at_ BZ.err e1 e3 e5 (.string ky) (.string nm) (.slice (some ⟨g, 0, none⟩) m cap) (.int .i64 zi) (.slice (some ⟨h, 0, none⟩) m capS) (.int .i64 x1) (.int .i64 0)
    rw [← hZ2] at c3 c4 c5 T2
    have K2 : KeepsFrom W1.heap.size V Z2 := K1.trans (by rw [hZ2]; exact ((keeps_set5 _ _ _ _ _ _ _ _ _ _ _ _ _).trans (keeps_set _ _ _ _)).trans (keeps_set _ _ _ _))
    rw [← hZ2]
    refine wpIn_ret ?_
    show _ ∧ _
    refine ⟨K2, rfl, x1, hdue.out, c3, c4, c5, ?_, ?_⟩
    ·
     rw [HX.out.2]; exact RY1.turns T2 (by have := HZZ.out; have := HHH.out; omega)
    ·
     have t1 : Turns (fun k => W1.heap.size ≤ k) V Y := Turns.of_below hBY
     exact (((t.trans t1).mono fun k hk => .inr (.inr (.inr (.inr hk)))).trans (T1.mono fun k hk => .inr (.inr (.inr (.inl hk))))).trans (T2.mono fun k hk => hk.elim .inl fun hk => hk.elim (fun h => .inr (.inl h)) fun h => .inr (.inr (.inl h)))
   ·
    obtain rfl : EE = 192 := by rw [HX.out.1]; unfold leaseE; rw [if_pos ⟨hk1, hk2⟩, if_neg (fun hh => hd hh.2)]
    refine hideQI (fun Q9 hQ9 => ?_); have HQ9 : Shut _ := hQ9; clear hQ9
    gi_wp2
    refine HQ9.out _ _ _ ?_
    refine ⟨keeps_below hBY, trivial, t.trans (Turns.of_below hBY), fun y hy => ?_⟩
    rcases List.mem_append.1 hy with hy | hy
    ·
     exact hpd y hy
    ·
     rw [List.mem_singleton] at hy
     subst hy
     exact hd
  ·
   go_simp
   obtain ⟨A, hA⟩ : ∃ A, A = V0.alloc (.cells #[.int .i64 0, .int .i64 0, .int .i64 0, .int .i64 0, .string ⟨#[]⟩] 52) := ⟨_, rfl⟩
   have hBA : Below V.heap.size V A := by rw [hA]; exact hbV.alloc hsV _
   have bA : BoxL A V0.heap.size [.int .i64 0, .int .i64 0, .int .i64 0, .int .i64 0, .string ⟨#[]⟩] := by rw [hA]; exact boxL_new V0 [.int .i64 0, .int .i64 0, .int .i64 0, .int .i64 0, .string ⟨#[]⟩] _ rfl
   rw [← hA]
   refine hK.out _ _ (HC _ hBA) (fun hHeld => ?_)
   clear hK K9 hA
   refine wpAnyH_ready (rs := [9]) (by kernel_rfl) (by simp) ?_
   refine cons_at (i := 9) rfl (fun K hK => ?_) AllReadyH.nil
   go_simp
   (go_at_call 51; refine (cL _).mono ?_; rintro e w4 ⟨rfl, hb4⟩)
   replace bA := bA.below hb4
   replace hBA := Below.tr hBA hb4
   clear hb4
   refine hK.out _ _ (HC _ hBA) (fun hHeld => ?_)
   clear hK K
   refine take_at (i := 10) (v := ?_) rfl (by kernel_rfl) (by kernel_rfl) (by kernel_rfl) (fun _ _ _ h => h) (Or.inl ⟨by rfl, ?_⟩) (by assumption) ?_
   rotate_left 1
   ·
    (intro w hSw; (try dsimp only at hSw); go_simp; (try with_reducible rfl))
   try go_frame
   refine take_at (i := 11) (v := ?_) rfl (by kernel_rfl) (by kernel_rfl) (by kernel_rfl) (fun _ _ _ h => h) (Or.inl ⟨by rfl, ?_⟩) (by assumption) ?_
   rotate_left 1
   ·
    (intro w hSw; (try dsimp only at hSw); go_simp; (try with_reducible rfl))
   try go_frame
   refine take_at (i := 12) (v := ?_) rfl (by kernel_rfl) (by kernel_rfl) (by kernel_rfl) (fun _ _ _ h => h) (Or.inl ⟨by rfl, ?_⟩) (by assumption) ?_
   rotate_left 1
   ·
    (intro w hSw; (try dsimp only at hSw); go_simp; (try with_reducible rfl))
   try go_frame
   generalize w4 = A at *
   have hzV : V.heap.size ≤ V0.heap.size := hsV
   obtain ⟨Y, hY⟩ : ∃ Y, Y = (((((A.setCell ⟨V0.heap.size, 0, none⟩ (.int .i64 xi)).setCell ⟨V0.heap.size, 1, none⟩ (.int .i64 xt)).setCell ⟨V0.heap.size, 2, none⟩ (.int .i64 xd)).setCell ⟨V0.heap.size, 3, none⟩ (.int .i64 xk)).setCell ⟨V0.heap.size, 4, none⟩ (.string xr)) := ⟨_, rfl⟩
   have bY : BoxL Y V0.heap.size [.int .i64 xi, .int .i64 xt, .int .i64 xd, .int .i64 xk, .string xr] := by rw [hY]; exact boxL_set5 bA _ _ _ _ _
   have hBY : Below V.heap.size V Y := by rw [hY]; exact below_setT hBA (by omega) _ _ _ _ _
   have u0 := bA.1 0 _ rfl; have u1 := bA.1 1 _ rfl; have u2 := bA.1 2 _ rfl; have u3 := bA.1 3 _ rfl; have u4 := bA.1 4 _ rfl
   have v0 := bA.2 0 (by simp); have v1 := bA.2 1 (by simp); have v2 := bA.2 2 (by simp); have v3 := bA.2 3 (by simp); have v4 := bA.2 4 (by simp)
   refine wpAnyH_ready (rs := [14]) (by kernel_rfl) (by simp) ?_
   refine cons_at (i := 14) rfl (fun K hK => ?_) AllReadyH.nil
   go_simp
   rw [← hY]
   refine hK.out _ _ (HC _ hBY) (fun hHeld => ?_)
   clear hK K hY
   refine take_at (i := 15) (v := ?_) rfl (by kernel_rfl) (by kernel_rfl) (by kernel_rfl) (fun _ _ _ h => h) (Or.inl ⟨by rfl, ?_⟩) (by assumption) ?_
   rotate_left 1
   ·
    (intro w hSw; (try dsimp only at hSw); go_simp; (try with_reducible rfl))
   try go_frame
   refine wpAnyH_done (by kernel_rfl) ?_ _
   refine HK.out _ _ ?_
   clear HK K hHeld u0 u1 u2 u3 u4 v0 v1 v2 v3 v4 bA hBA
   generalize V0.heap.size = zz at *
   have BY := BV.below hBY
   have OY := OV.below hBY
   clear BV OV bX hbV hsV HC cL
   by_cases hd : sd ≤ untF now []
   ·
    obtain rfl : EE = 0 := by rw [HX.out.1]; unfold leaseE; rw [if_pos ⟨hk1, hk2⟩, if_pos ⟨rfl, hd⟩]
    have hdue : Hid (dueAt zs (untF now []) = some x1) := idx_is hx1 (decide_eq_true ⟨rfl, hd⟩) fun j hj v hv => decide_eq_false fun hh => hpd (j, v) (by rw [hpe]; exact mem_candTo hv (by rw [hh.1]; simp) hj) hh.2
    clear hpd hpe hd hpre hx1 hx2
    refine wpIn_seq_k (fun K hK => ?_); have HK : Shut _ := hK; clear hK
    gi_wp2
    refine HK.out _ _ ?_
    clear HK K
    refine wpIn_cond (t := true) rfl ?_
    rw [if_pos rfl]
    refine wpIn_seq_k (fun K hK => ?_); have HK : Shut _ := hK; clear hK
    have q4 := BY.box.1 4 _ rfl
    have b0 := bY.1 0 _ rfl; have b1 := bY.1 1 _ rfl; have b2 := bY.1 2 _ rfl; have b3 := bY.1 3 _ rfl; have b4 := bY.1 4 _ rfl
    obtain ⟨r0, r1, r2, r3, r4⟩ := OY.row.frees hil
    have hcs : m ≤ capS ∧ capS ≤ 9223372036854775807 := by have a1 := OY.row.isZ.1; have a2 := OY.row.isZ.2.1; rw [← OY.hn] at a1; exact ⟨a1, a2⟩
    obtain ⟨hcs1, hcs2⟩ := hcs
    obtain ⟨o0, o1, o2, o3, o4⟩ := OY.row.at (List.getElem?_eq_getElem hil)
    rw [Nat.zero_add] at r0 r1 r2 r3 r4 o0 o1 o2 o3 o4
    gi_wp2
    obtain ⟨Y1, hY1⟩ : ∃ Y1, Y1 = put5 Y h (x1 * 5) ⟨xi, xt, xd, xk, xr⟩ := ⟨_, rfl⟩
    have RY1 := OY.row.put hil ⟨xi, xt, xd, xk, xr⟩ hXt
    rw [Nat.zero_add, ← hY1] at RY1
    have T1 : Turns (fun k => k = h) Y Y1 := by rw [hY1]; exact put5_turns _ _ _ _
    unfold put5 at hY1
    dsimp only at hY1
    have K1 : KeepsFrom W1.heap.size V Y1 := (keeps_below hBY).trans (by rw [hY1]; exact keeps_set5 _ _ _ _ _ _ _ _ _ _ _ _ _)
    rw [← hY1]
    refine HK.out _ _ ?_
    clear HK K hY1 q4 b0 b1 b2 b3 b4 r0 r1 r2 r3 r4 o0 o1 o2 o3 o4
    have BZ := BY.turns T1 (by have := HZZ.out; have := HHH.out; omega) (by have := HZZ.out; have := HHH.out; omega) (by have := HZZ.out; have := HHH.out; omega) (by have := HZZ.out; have := HHH.out; omega) (by have := HZZ.out; have := HHH.out; omega) (by have := HZZ.out; have := HHH.out; omega)
    clear BY OY
    have p0 := BZ.box.1 0 _ rfl; have p1 := BZ.box.1 1 _ rfl; have p2 := BZ.box.1 2 _ rfl; have p3 := BZ.box.1 3 _ rfl; have p4 := BZ.box.1 4 _ rfl
    have y0 := BZ.res.1 0 _ rfl; have y1 := BZ.res.1 1 _ rfl; have y2 := BZ.res.1 2 _ rfl; have y3 := BZ.res.1 3 _ rfl; have y4 := BZ.res.1 4 _ rfl
    have s0 := BZ.res.2 0 (by simp); have s1 := BZ.res.2 1 (by simp); have s2 := BZ.res.2 2 (by simp); have s3 := BZ.res.2 3 (by simp); have s4 := BZ.res.2 4 (by simp)
    have y5 := BZ.at_.1 0 _ rfl
    have y6 := BZ.err.1 0 _ rfl
    have s5 := BZ.at_.2 0 (by simp)
    have s6 := BZ.err.2 0 (by simp)
    have e1 : ¬ z3 = z4 := by have := HZZ.out; omega
    have e2 : ¬ z4 = z3 := by have := HZZ.out; omega
    have e3 : ¬ z3 = z5 := by have := HZZ.out; omega
    have e4 : ¬ z5 = z3 := by have := HZZ.out; omega
    have e5 : ¬ z4 = z5 := by have := HZZ.out; omega
    have e6 : ¬ z5 = z4 := by have := HZZ.out; omega
    refine wpIn_seq_k (fun K hK => ?_); have HK : Shut _ := hK; clear hK
    gi_wp2
    refine HK.out _ _ ?_
    clear HK K
    obtain ⟨Z2, hZ2⟩ : ∃ Z2, Z2 = ((((((Y1.setCell ⟨z3, 0, none⟩ (.string ky)).setCell ⟨z3, 1, none⟩ (.string nm)).setCell ⟨z3, 2, none⟩ (.slice (some ⟨g, 0, none⟩) m cap)).setCell ⟨z3, 3, none⟩ (.int .i64 zi)).setCell ⟨z3, 4, none⟩ (.slice (some ⟨h, 0, none⟩) m capS)).setCell ⟨z4, 0, none⟩ (.int .i64 x1)).setCell ⟨z5, 0, none⟩ (.int .i64 0) := ⟨_, rfl⟩
    obtain ⟨c3, c4, c5, T2⟩ := fin3 BZ.res BZ.at_ BZ.err e1 e3 e5 (.string ky) (.string nm) (.slice (some ⟨g, 0, none⟩) m cap) (.int .i64 zi) (.slice (some ⟨h, 0, none⟩) m capS) (.int .i64 x1) (.int .i64 0)
    rw [← hZ2] at c3 c4 c5 T2
    have K2 : KeepsFrom W1.heap.size V Z2 := K1.trans (by rw [hZ2]; exact ((keeps_set5 _ _ _ _ _ _ _ _ _ _ _ _ _).trans (keeps_set _ _ _ _)).trans (keeps_set _ _ _ _))
    rw [← hZ2]
    refine wpIn_ret ?_
    show _ ∧ _
    refine ⟨K2, rfl, x1, hdue.out, c3, c4, c5, ?_, ?_⟩
    ·
     rw [HX.out.2]; exact RY1.turns T2 (by have := HZZ.out; have := HHH.out; omega)
    ·
     have t1 : Turns (fun k => W1.heap.size ≤ k) V Y := Turns.of_below hBY
     exact (((t.trans t1).mono fun k hk => .inr (.inr (.inr (.inr hk)))).trans (T1.mono fun k hk => .inr (.inr (.inr (.inl hk))))).trans (T2.mono fun k hk => hk.elim .inl fun hk => hk.elim (fun h => .inr (.inl h)) fun h => .inr (.inr (.inl h)))
   ·
    obtain rfl : EE = 192 := by rw [HX.out.1]; unfold leaseE; rw [if_pos ⟨hk1, hk2⟩, if_neg (fun hh => hd hh.2)]
    refine hideQI (fun Q9 hQ9 => ?_); have HQ9 : Shut _ := hQ9; clear hQ9
    gi_wp2
    refine HQ9.out _ _ _ ?_
    refine ⟨keeps_below hBY, trivial, t.trans (Turns.of_below hBY), fun y hy => ?_⟩
    rcases List.mem_append.1 hy with hy | hy
    ·
     exact hpd y hy
    ·
     rw [List.mem_singleton] at hy
     subst hy
     exact hd
 case done =>
  rintro D V hD ⟨t, hpd⟩ hK
  have hno : dueAt zs (untF now []) = none := idx_no fun i v hv => decide_eq_false fun hh => hpd (i, v) (mem_candL hv (by rw [hh.1]; simp)) hh.2
  have HL : Hid (leaseRE zs now k = 192 ∧ leaseRP zs now k = 0) := by
   have e : leaseRE zs now k = 192 := by unfold leaseRE; rw [if_pos ⟨⟨hk1, hk2⟩, HE.out⟩, if_pos hno]
   exact ⟨e, by unfold leaseRP; rw [if_neg (by rw [e]; decide)]⟩
  have BZ := B3.turns t (by have := HZZ.out; have := HHH.out; omega) (by have := HZZ.out; have := HHH.out; omega) (by have := HZZ.out; have := HHH.out; omega) (by have := HZZ.out; have := HHH.out; omega) (by have := HZZ.out; have := HHH.out; omega) (by have := HZZ.out; have := HHH.out; omega)
  clear hpd hno hH L O3 B3
  have p0 := BZ.box.1 0 _ rfl; have p1 := BZ.box.1 1 _ rfl; have p2 := BZ.box.1 2 _ rfl; have p3 := BZ.box.1 3 _ rfl; have p4 := BZ.box.1 4 _ rfl
  have y0 := BZ.res.1 0 _ rfl; have y1 := BZ.res.1 1 _ rfl; have y2 := BZ.res.1 2 _ rfl; have y3 := BZ.res.1 3 _ rfl; have y4 := BZ.res.1 4 _ rfl
  have s0 := BZ.res.2 0 (by simp); have s1 := BZ.res.2 1 (by simp); have s2 := BZ.res.2 2 (by simp); have s3 := BZ.res.2 3 (by simp); have s4 := BZ.res.2 4 (by simp)
  have y5 := BZ.at_.1 0 _ rfl
  have y6 := BZ.err.1 0 _ rfl
  have s5 := BZ.at_.2 0 (by simp)
  have s6 := BZ.err.2 0 (by simp)
  have e1 : ¬ z3 = z4 := by have := HZZ.out; omega
  have e2 : ¬ z4 = z3 := by have := HZZ.out; omega
  have e3 : ¬ z3 = z5 := by have := HZZ.out; omega
  have e4 : ¬ z5 = z3 := by have := HZZ.out; omega
  have e5 : ¬ z4 = z5 := by have := HZZ.out; omega
  have e6 : ¬ z5 = z4 := by have := HZZ.out; omega
  gi_wp2
  obtain ⟨Z2, hZ2⟩ : ∃ Z2, Z2 = ((((((V.setCell ⟨z3, 0, none⟩ (.string ⟨#[]⟩)).setCell ⟨z3, 1, none⟩ (.string ⟨#[]⟩)).setCell ⟨z3, 2, none⟩ (.slice none 0 0)).setCell ⟨z3, 3, none⟩ (.int .i64 0)).setCell ⟨z3, 4, none⟩ (.slice none 0 0)).setCell ⟨z4, 0, none⟩ (.int .i64 0)).setCell ⟨z5, 0, none⟩ (.int .i64 192) := ⟨_, rfl⟩
  obtain ⟨c3, c4, c5, T2⟩ := fin3 BZ.res BZ.at_ BZ.err e1 e3 e5 (.string ⟨#[]⟩) (.string ⟨#[]⟩) (.slice none 0 0) (.int .i64 0) (.slice none 0 0) (.int .i64 0) (.int .i64 192)
  rw [← hZ2] at c3 c4 c5 T2
  rw [← hZ2]
  clear hZ2
  have KZ := heap_turns hK T2 (by have := HZZ.out; have := HHH.out; omega)
  have TP := turns_put Z2 D (.deferred none)
  refine ⟨by simp, .inl ⟨_, _, rfl, run_takeDeferred KZ, ?_⟩⟩
  have c3' := boxL_turns c3 TP (by have := HZZ.out; have := HHH.out; omega)
  have r0 := c3'.1 0 _ rfl; have r1 := c3'.1 1 _ rfl; have r2 := c3'.1 2 _ rfl; have r3 := c3'.1 3 _ rfl; have r4 := c3'.1 4 _ rfl
  have r5 := (boxL_turns c4 TP (by have := HZZ.out; have := HHH.out; omega)).1 0 _ rfl
  have r6 := (boxL_turns c5 TP (by have := HZZ.out; have := HHH.out; omega)).1 0 _ rfl
  rw [HL.out.1, HL.out.2]
  refine ⟨.tuple #[.agg #[.string ⟨#[]⟩, .string ⟨#[]⟩, .slice none 0 0, .int .i64 0, .slice none 0 0], .int .i64 0, .int .i64 192], by simp [results, Try.results19, go_sem, r0, r1, r2, r3, r4, r5, r6], leaseW_zero (by decide) ⟨rfl, ?_⟩⟩
  have hw : w.heap.size ≤ z3 := by have := HZZ.out; omega
  have t1 : Turns (fun k => w.heap.size ≤ k) W1 V := t.mono fun k hk => by have := hB3.size; omega
  have t2 : Turns (fun k => w.heap.size ≤ k) V Z2 := T2.mono fun k hk => by have := HZZ.out; omega
  have t3 : Turns (fun k => w.heap.size ≤ k) Z2 _ := TP.mono fun k hk => by have := hB3.size; omega
  exact Below.turns hB3 ((t1.trans t2).trans t3) (fun i hi => hi)
 case stop =>
  rintro D c pre V hD hpre ⟨rfl, ix, hdue, b3, b4, b5, RZ, T⟩ hK
  have HL : Hid (leaseRE zs now k = 0 ∧ leaseRP zs now k = ix ∧ leaseRZ (plainT tv) zs now k = leaseAt (plainT tw) zs now k ix) := by
   have e : leaseRE zs now k = 0 := by unfold leaseRE; rw [if_pos ⟨⟨hk1, hk2⟩, HE.out⟩, if_neg (by rw [hdue]; simp)]
   refine ⟨e, by unfold leaseRP; rw [if_pos e, hdue]; rfl, by unfold leaseRZ; rw [hdue, HTW.out]⟩
  have hll : (leaseAt (plainT tw) zs now k ix).length = zs.length := by unfold leaseAt; split <;> simp
  have O4 := O3.renew T (fun k hk => by have := HZZ.out; have := HHH.out; omega) RZ hll
  clear hH L B3
  gi_wp2
  have TP := turns_put V D (.deferred none)
  refine ⟨by simp, .inl ⟨_, _, rfl, run_takeDeferred hK, ?_⟩⟩
  have c3' := boxL_turns b3 TP (by have := HZZ.out; have := HHH.out; omega)
  have r0 := c3'.1 0 _ rfl; have r1 := c3'.1 1 _ rfl; have r2 := c3'.1 2 _ rfl; have r3 := c3'.1 3 _ rfl; have r4 := c3'.1 4 _ rfl
  have r5 := (boxL_turns b4 TP (by have := HZZ.out; have := HHH.out; omega)).1 0 _ rfl
  have r6 := (boxL_turns b5 TP (by have := HZZ.out; have := HHH.out; omega)).1 0 _ rfl
  have hBf : Below w.heap.size w (V.putObj D (.deferred none)) := by
   have t1 : Turns (fun k => w.heap.size ≤ k) W1 V := T.mono fun k hk => by have := HZZ.out; have := HHH.out; have := hB3.size; have := hB0z; omega
   have t2 : Turns (fun k => w.heap.size ≤ k) V _ := TP.mono fun k hk => by have := hB3.size; omega
   exact Below.turns hB3 (t1.trans t2) (fun i hi => hi)
  have T5 := T.trans (TP.mono (Q := fun k => k = z3 ∨ k = z4 ∨ k = z5 ∨ k = h ∨ W1.heap.size ≤ k) fun k hk => .inr (.inr (.inr (.inr (by omega)))))
  have O5 := O3.renew T5 (fun k hk => by have := HZZ.out; have := HHH.out; omega) (O4.row.turns TP (by have := HHH.out; omega)) hll
  rw [HL.out.1, HL.out.2.1, HL.out.2.2]
  exact ⟨.tuple #[.agg #[.string ky, .string nm, .slice (some ⟨g, 0, none⟩) m cap, .int .i64 zi, .slice (some ⟨h, 0, none⟩) m capS], .int .i64 ix, .int .i64 0], by simp [results, Try.results19, go_sem, r0, r1, r2, r3, r4, r5, r6], ky, nm, some ⟨g, 0, none⟩, m, cap, zi, some ⟨h, 0, none⟩, m, capS, tw, _, rfl, fun V9 t9 => by have O6 := O5.turns t9 (fun k hk => by omega); exact ⟨O6.hT, O6.htn, O6.row.isZ, O6.hn⟩, fun _ => ⟨rfl, rfl, rfl, HTW.out, rfl⟩, fun h => absurd rfl h, hBf⟩
def SaidLW (w : World) (E p : Int) (ky nm : ByteArray) (y : List StP × Int) (fs : List TaskP) (e : Ending) (w' : World) : Prop :=
 ∃ xk xn xa xm xc xi xz xq xl, e = .returned (.tuple #[.agg #[.string xk, .string xn, .slice xa xm xc, .int .i64 xi, .slice xz xq xl], .int .i64 p, .int .i64 E]) ∧ (∀ V, Turns (fun k => k < w.heap.size) w' V → Said V E ky nm y.2 fs y.1 xk xn xa xm xc xi xz xq xl) ∧ Below w.heap.size w w'
theorem leaseYW_any {V : World} {ky nm : ByteArray} {is : Int} {fs : List TaskP} {zs : List StP} {xk xn : ByteArray} {xa : Option Addr} {xm xc : Nat} {xi : Int} {xz : Option Addr} {xq xl : Nat} (hky : ky.size ≤ maxLen) (hx : Said V 0 ky nm is fs zs xk xn xa xm xc xi xz xq xl) (hOk : RunOk ky nm fs zs is) (now k : Int) (hk : wfJ k) (hE : leaseRE (settleS fs (untF now []) (zs, is)).1 now k = 0) :
  Calls Try.prog 19 #[.agg #[.string xk, .string xn, .slice xa xm xc, .int .i64 xi, .slice xz xq xl], .int .i64 now, .int .i64 k] V fun e w' => SaidLW V (leaseRE (settleS fs (untF now []) (zs, is)).1 now k) (leaseRP (settleS fs (untF now []) (zs, is)).1 now k) ky nm (leaseRZ fs (settleS fs (untF now []) (zs, is)).1 now k, (settleS fs (untF now []) (zs, is)).2) fs e w' := by
 obtain ⟨xt, xr, h1, h2, -⟩ := hx.it
 obtain ⟨rfl, rfl, rfl, rfl, rfl⟩ := h2 rfl
 have hc : (1 ≤ k ∧ k ≤ 1099511627776) ∧ heldAt (settleS (plainT xt) (untF now []) (zs, is)).1 k = none := by
  apply Classical.byContradiction
  intro hc
  unfold leaseRE at hE
  rw [if_neg hc] at hE
  cases hE
 refine (leaseGoW_any ky nm xa xm xc is xz xq xl xt zs now k V hk h1.hT h1.hm h1.hZ h1.hq hOk hc.1.1 hc.1.2 hc.2).mono ?_
 rintro e w' ⟨yk, yn, ya, ym, yc, yi, ys, yq, ysc, yt, yz, g1, g2, g3, g4, g5⟩
 exact ⟨_, _, _, _, _, _, _, _, _, g1, fun V t => ⟨yt, yz, g2 V t, g3, g4⟩, g5⟩
end Go.Proofs.Ytdpljpjbomhccaa
namespace Go.Proofs.Ytdpljpjbomhccaa
open Go.RowKit Plain
set_option linter.unusedVariables false
theorem held_is {ts : List TaskP} {zs : List StP} {zi k : Int} (h : RightS ts zs zi) {j : Nat} {s : StP} (hs : zs[j]? = some s) (h2 : s.i = 2) (hk : s.k = k) : heldAt zs k = some j := by
 cases hh : heldAt zs k with
 | none => exact absurd hk (held_none hh hs h2)
 | some i =>
  obtain ⟨u, hu, u2, uk⟩ := held_some hh
  rcases Nat.lt_trichotomy i j with h3 | h3 | h3
  ·
   exact absurd (uk.trans hk.symm) (right_apart h i j u s h3 hu hs u2 h2)
  ·
   rw [h3]
  ·
   exact absurd (hk.trans uk.symm) (right_apart h j i s u h3 hs hu h2 u2)
theorem cancelled {ky nm : ByteArray} {ts : List TaskP} {zs : List StP} (h : RightS ts zs 0) (hOk : RunOk ky nm ts (zs.map cancelT) 3) (now : Int) :
  settleS ts (untF now []) (zs.map cancelT, 3) = (zs.map cancelT, 3) ∧ leaseRE (zs.map cancelT) now 1073741824 = 192 ∧ (∀ R k, ansE ts R (zs.map cancelT) k = 191) ∧ cancelE ky nm ts (zs.map cancelT) 3 now = 193 := by
 obtain ⟨hR, hN⟩ := cancel_all h
 have hs := settle_over (u := untF now []) (x := (zs.map cancelT, 3)) hR (show (3 : Int) ≠ 0 by decide)
 have hh : ∀ k, heldAt (zs.map cancelT) k = none := fun k => idx_no fun i s hs => decide_eq_false fun hh => (hN i s hs).2 hh.1
 refine ⟨hs, ?_, fun R k => by unfold ansE; rw [hh], ?_⟩
 ·
  have hd : dueAt (zs.map cancelT) (untF now []) = none := idx_no fun i s hs => decide_eq_false fun hh => by
   rw [List.getElem?_map] at hs
   obtain ⟨v, hv, rfl⟩ := Option.map_eq_some_iff.1 hs
   have := hh.1
   rw [cancel_i] at this
   split at this <;> omega
  unfold leaseRE
  rw [if_pos ⟨by decide, hh _⟩, if_pos hd]
 ·
  unfold cancelE
  rw [if_pos (runB_iff.2 hOk), hs, if_neg (show ¬ (3 : Int) = 0 by decide)]
structure EndsAt (ts : List TaskP) (zs : List StP) (n T now : Int) : Prop where
 right : RightS ts zs 0
 none : hasK zs 2 = false
 sum : sumT zs = n - 1
 time : 0 ≤ now ∧ now ≤ T
 due : ∀ (i : Nat) s, zs[i]? = some s → s.d ≤ T
theorem mend_is (ts : List TaskP) (ss : List StP) : (mendS ts ss 0).2 = 0 ∨ (mendS ts ss 0).2 = 1 ∨ (mendS ts ss 0).2 = 2 := by
 unfold mendS
 split
 ·
  exact .inr (.inr rfl)
 ·
  dsimp only
  split
  ·
   exact .inr (.inl rfl)
  ·
   exact .inl rfl
theorem mend_due {ts : List TaskP} {ss : List StP} {T : Int} (h0 : 0 ≤ T) (h : ∀ (i : Nat) s, ss[i]? = some s → s.d ≤ T) (i : Nat) (s : StP) (hs : (mendS ts ss 0).1[i]? = some s) : s.d ≤ T := by
 unfold mendS at hs
 split at hs
 ·
  rw [List.getElem?_map] at hs
  obtain ⟨v, hv, rfl⟩ := Option.map_eq_some_iff.1 hs
  have := h i v hv
  unfold cancelT
  split
  ·
   exact h0
  ·
   exact this
 ·
  dsimp only at hs
  rw [List.getElem?_mapIdx] at hs
  obtain ⟨v, hv, rfl⟩ := Option.map_eq_some_iff.1 hs
  have := h i v hv
  split
  ·
   unfold readyT; split <;> exact this
  ·
   exact this
structure Leased (ts : List TaskP) (zs : List StP) (n T now : Int) (i : Nat) (x : StP) (t : TaskP) (zs1 : List StP) : Prop where
 il : i < zs.length
 len : zs1.length = zs.length
 at_ : zs1[i]? = some x
 task : ts[i]? = some t
 right : RightS ts zs1 0
 sum : sumT zs1 = n
 held : x.i = 2
 tok : x.k = n
 when : x.d = now + t.lease
 tb : 1 ≤ t.lease ∧ t.lease ≤ 1048576
 one : ∀ (j : Nat) (u : StP), j ≠ i → zs1[j]? = some u → u.i ≠ 2
 due : ∀ (j : Nat) s, zs1[j]? = some s → s.d ≤ T + 1048576
 time : 0 ≤ now ∧ now ≤ T
theorem tasks_all {nm : ByteArray} {ts : List TaskP} (h : rightG nm ts = 0) : ∀ (i : Nat) t, ts[i]? = some t → 1 ≤ t.tries ∧ t.tries ≤ 8 ∧ 0 ≤ t.wait ∧ t.wait ≤ 1048576 ∧ 1 ≤ t.lease ∧ t.lease ≤ 1048576 := fun i t hi => by
 obtain ⟨h1, -, -, h4, -⟩ := rightG_ok h
 exact ((taskB_iff _ _).1 (tasksB_at h4 hi)).2
theorem unt_of {a : Int} (h0 : 0 ≤ a) (h : a ≤ 1099511627776) : untF a [] = a := by rw [untF_nil]; omega
theorem leased_of {nm : ByteArray} {ts : List TaskP} (hd : rightG nm ts = 0) {zs : List StP} {n T now N : Int} (h : EndsAt ts zs n T now) (hn : 1 ≤ n ∧ n ≤ 1000) (hN : now ≤ N ∧ N ≤ T) (hdue : ∀ (i : Nat) s, zs[i]? = some s → s.i = 1 → s.d ≤ N) (hT : T ≤ 1000000000000) :
  settleS ts (untF N []) (zs, 0) = (zs, 0) ∧ leaseRE zs N n = 0 ∧ ∃ i x t, leaseRP zs N n = (i : Nat) ∧ Leased ts zs n T N i x t (leaseRZ ts zs N n) := by
 obtain ⟨-, -, -, -, -, ha, hi⟩ := rightG_ok hd
 have h0 := h.time.1
 have hu := unt_of (show 0 ≤ N by omega) (show N ≤ 1099511627776 by omega)
 have hno : ∀ (i : Nat) s, zs[i]? = some s → s.i ≠ 2 := fun i s hs => hasK_not h.none hs
 have ho : overN zs (untF N []) = none := by
  cases hh : overN zs (untF N []) with
  | none => rfl
  | some i => obtain ⟨s, hs, h2, -⟩ := overN_some hh; exact absurd h2 (hno i s hs)
 have hh : heldAt zs n = none := idx_no fun i s hs => decide_eq_false fun hh => hno i s hs hh.1
 obtain ⟨i0, s0, hs0, h10⟩ := due_some ha hi h.right h.none
 have hdn : dueAt zs (untF N []) ≠ none := fun hn => by
  refine due_none hn hs0 ⟨h10, ?_⟩
  rw [hu]; exact hdue i0 s0 hs0 h10
 obtain ⟨i, hii⟩ := Option.ne_none_iff_exists'.1 hdn
 obtain ⟨s, hs, h1, hd1, -⟩ := due_at hii
 obtain ⟨t, ht⟩ := h.right.task hs
 have hE : leaseRE zs N n = 0 := by unfold leaseRE; rw [if_pos ⟨⟨hn.1, by omega⟩, hh⟩, if_neg hdn]
 have hP : leaseRP zs N n = (i : Nat) := by unfold leaseRP; rw [if_pos hE, hii]; rfl
 have hl : leaseE s N n = 0 := by unfold leaseE; rw [if_pos ⟨hn.1, by omega⟩, if_pos ⟨h1, hd1⟩]
 have hZ : leaseRZ ts zs N n = zs.set i (leaseT t.lease s N n) := by
  unfold leaseRZ; rw [hii]; show leaseAt _ _ _ _ _ = _; unfold leaseAt; rw [hs, ht]
 have htok : ∀ (j : Nat) (u : StP), zs[j]? = some u → u.k ≠ n := fun j u hu e => by
  obtain ⟨t', ht'⟩ := h.right.task hu
  exact hno j u hu ((right_held (h.right.each j u t' hu ht').right).2.1 (by omega))
 have htb := tasks_all hd i t ht
 obtain ⟨r1, r2, r3, r4, -⟩ := lease_right (fun i t h => (tasks_all hd i t h).2.1) h.right hs ht hl htok
 have hil := (List.getElem?_eq_some_iff.1 hs).1
 have hxd : (leaseT t.lease s N n).d = N + t.lease := by
  unfold leaseT; rw [if_pos hl]
  show untF N [t.lease] = _
  unfold untF sumP
  simp [sumP]
  omega
 refine ⟨settle_fix ho, hE, i, leaseT t.lease s N n, t, hP, ?_⟩
 rw [hZ]
 refine ⟨hil, List.length_set .., by rw [List.getElem?_set_self hil], ht, r1, by rw [r2, h.sum]; omega, r3, r4, hxd, ⟨htb.2.2.2.2.1, htb.2.2.2.2.2⟩, fun j u hj hu => ?_, fun j u hu => ?_, ⟨by omega, hN.2⟩⟩
 ·
  rw [List.getElem?_set_ne (fun e => hj e.symm)] at hu; exact hno j u hu
 ·
  by_cases hj : i = j
  ·
   subst hj
   rw [List.getElem?_set_self hil] at hu
   cases hu
   rw [hxd]; omega
  ·
   rw [List.getElem?_set_ne hj] at hu
   have := h.due j u hu
   omega
structure RoundEnd (ts : List TaskP) (n T : Int) (ms : List StP) (mi : Int) : Prop where
 right : RightS ts ms mi
 none : hasK ms 2 = false
 sum : sumT ms = n
 due : ∀ (j : Nat) s, ms[j]? = some s → s.d ≤ T
 is : mi = 0 ∨ mi = 1 ∨ mi = 2
theorem round_end {nm : ByteArray} {ts : List TaskP} (hd : rightG nm ts = 0) {zs zs1 : List StP} {n T now : Int} {i : Nat} {x : StP} {t : TaskP} (h : Leased ts zs n T now i x t zs1) {y : StP} (hy : rightT t.tries y = true) (ht : y.t = x.t) (hk : y.k = 0) (h5 : y.i ≠ 5) (h2 : y.i ≠ 2) (hdu : y.d ≤ T + 2097152) :
  RoundEnd ts n (T + 2097152) (mendS ts (zs1.set i y) 0).1 (mendS ts (zs1.set i y) 0).2 := by
 obtain ⟨a1, a2, a3⟩ := answer_right (fun i t h => (tasks_all hd i t h).1) h.right h.at_ h.task h.held h.one hy ht hk h5 h2
 have hil : i < zs1.length := by rw [h.len]; exact h.il
 refine ⟨a1, a2, by rw [a3]; exact h.sum, mend_due (by have := h.time; omega) fun j u hu => ?_, mend_is _ _⟩
 by_cases hj : i = j
 ·
  subst hj
  rw [List.getElem?_set_self hil] at hu
  cases hu
  exact hdu
 ·
  rw [List.getElem?_set_ne hj] at hu
  have := h.due j u hu
  omega
theorem leased_on {ts : List TaskP} {zs zs1 : List StP} {n T now : Int} {i : Nat} {x : StP} {t : TaskP} (h : Leased ts zs n T now i x t zs1) (hT : T ≤ 1000000000000) : settleS ts (untF now []) (zs1, 0) = (zs1, 0) := by
 refine settle_fix ?_
 cases hh : overN zs1 (untF now []) with
 | none => rfl
 | some j =>
  obtain ⟨s, hs, h2, hd, -⟩ := overN_some hh
  rw [unt_of h.time.1 (by have := h.time; omega)] at hd
  by_cases hj : j = i
  ·
   subst hj
   have := h.at_
   rw [hs] at this
   cases this
   have := h.when
   have := h.tb
   omega
  ·
   exact absurd h2 (h.one j s hj hs)
theorem leased_at {ts : List TaskP} {zs zs1 : List StP} {n T now : Int} {i : Nat} {x : StP} {t : TaskP} (h : Leased ts zs n T now i x t zs1) : heldAt zs1 n = some i := held_is h.right h.at_ h.held h.tok
theorem end_done {nm : ByteArray} {ts : List TaskP} (hd : rightG nm ts = 0) {zs zs1 : List StP} {n T now : Int} {i : Nat} {x : StP} {t : TaskP} (h : Leased ts zs n T now i x t zs1) (r : ByteArray) (hr : r.size ≤ 16) :
  ansE ts (fun _ s => doneE s r) zs1 n = 0 ∧ RoundEnd ts n (T + 2097152) (ansZ ts (fun _ s => doneT s r) zs1 0 n).1 (ansZ ts (fun _ s => doneT s r) zs1 0 n).2 := by
 have hh := leased_at h
 have hE : doneE x r = 0 := by unfold doneE; rw [if_pos h.held, if_pos hr]
 have hR := (h.right.each i x t h.at_ h.task).right
 constructor
 ·
  unfold ansE; rw [hh]; simp only; rw [h.at_, h.task]; exact hE
 ·
  have e : ansZ ts (fun _ s => doneT s r) zs1 0 n = mendS ts (zs1.set i (doneT x r)) 0 := by unfold ansZ; rw [hh]; simp only; rw [h.at_, h.task]
  have hy := right_done hR h.held hr
  have ey : doneT x r = ⟨3, x.t, 0, 0, r⟩ := by unfold doneT; rw [if_pos h.held, if_pos hr]
  rw [e]
  refine round_end hd h hy.1 hy.2 ?_ ?_ ?_ ?_ <;> rw [ey] <;> dsimp only
  ·
   decide
  ·
   decide
  ·
   have := h.time; omega
theorem end_y {nm : ByteArray} {ts : List TaskP} (hd : rightG nm ts = 0) {zs zs1 : List StP} {n T now q : Int} {i : Nat} {x : StP} {t : TaskP} (h : Leased ts zs n T now i x t zs1) (hq : 0 ≤ q ∧ q ≤ T + 1048576) :
  RoundEnd ts n (T + 2097152) (mendS ts (zs1.set i (failT t.tries t.wait x q)) 0).1 (mendS ts (zs1.set i (failT t.tries t.wait x q)) 0).2 := by
 have hR := (h.right.each i x t h.at_ h.task).right
 have hy := right_fail (wt := t.wait) (now := q) hR h.held
 have hp := fail_parts (tr := t.tries) (wt := t.wait) (now := q) h.held
 refine round_end hd h hy.1 hy.2 hp.1 hp.2 fail_kind ?_
 unfold failT
 rw [if_pos h.held]
 split
 ·
  show untF q [afterF t.wait x.t] ≤ _
  have := afterF_nn t.wait x.t
  unfold untF
  simp [sumP]
  omega
 ·
  show (0 : Int) ≤ _
  have := h.time
  omega
theorem end_fail {nm : ByteArray} {ts : List TaskP} (hd : rightG nm ts = 0) {zs zs1 : List StP} {n T now : Int} {i : Nat} {x : StP} {t : TaskP} (h : Leased ts zs n T now i x t zs1) :
  ansE ts (fun _ s => heldE s) zs1 n = 0 ∧ RoundEnd ts n (T + 2097152) (ansZ ts (fun t s => failT t.tries t.wait s now) zs1 0 n).1 (ansZ ts (fun t s => failT t.tries t.wait s now) zs1 0 n).2 := by
 have hh := leased_at h
 constructor
 ·
  unfold ansE; rw [hh]; simp only; rw [h.at_, h.task]; exact if_pos h.held
 ·
  have e : ansZ ts (fun t s => failT t.tries t.wait s now) zs1 0 n = mendS ts (zs1.set i (failT t.tries t.wait x now)) 0 := by unfold ansZ; rw [hh]; simp only; rw [h.at_, h.task]
  rw [e]
  exact end_y hd h (by have := h.time; omega)
theorem end_over {nm : ByteArray} {ts : List TaskP} (hd : rightG nm ts = 0) {zs zs1 : List StP} {n T now : Int} {i : Nat} {x : StP} {t : TaskP} (h : Leased ts zs n T now i x t zs1) (hT : T ≤ 1000000000000) :
  RoundEnd ts n (T + 2097152) (settleS ts (untF x.d []) (zs1, 0)).1 (settleS ts (untF x.d []) (zs1, 0)).2 := by
 have hxd := h.when
 have htb := h.tb
 have htm := h.time
 have hu := unt_of (show 0 ≤ x.d by omega) (show x.d ≤ 1099511627776 by omega)
 have hov : overN zs1 (untF x.d []) = some i := by
  cases hh : overN zs1 (untF x.d []) with
  | none => exact absurd ⟨h.held, by rw [hu]; omega⟩ (overN_none hh h.at_)
  | some j =>
   obtain ⟨s, hs, h2, -⟩ := overN_some hh
   by_cases hj : j = i
   ·
    rw [hj]
   ·
    exact absurd h2 (h.one j s hj hs)
 have hst : stepS ts (untF x.d []) (zs1, 0) = mendS ts (zs1.set i (failT t.tries t.wait x x.d)) 0 := by
  unfold stepS
  simp only [hov]
  unfold failI
  rw [h.at_, h.task]
 have hE := end_y hd h (q := x.d) (by omega)
 have e : settleS ts (untF x.d []) (zs1, 0) = mendS ts (zs1.set i (failT t.tries t.wait x x.d)) 0 := by
  rw [← settle_step, hst]
  refine settle_fix ?_
  cases hh : overN (mendS ts (zs1.set i (failT t.tries t.wait x x.d)) 0).1 (untF x.d []) with
  | none => rfl
  | some j =>
   obtain ⟨s, hs, h2, -⟩ := overN_some hh
   exact absurd h2 (hasK_not hE.none hs)
 rw [e]
 exact hE
theorem RoundEnd.goes {ts : List TaskP} {n T now : Int} {ms : List StP} {mi : Int} (h : RoundEnd ts n T ms mi) (h0 : mi = 0) (ht : 0 ≤ now ∧ now ≤ T) : EndsAt ts ms (n + 1) T now := by
 subst h0
 exact ⟨h.right, h.none, by rw [h.sum]; omega, ht, h.due⟩
theorem RoundEnd.over {ts : List TaskP} {n T : Int} {ms : List StP} {mi : Int} (h : RoundEnd ts n T ms mi) (h0 : mi ≠ 0) : (mi = 2 ∧ hasK ms 4 = true) ∨ (mi = 1 ∧ hasK ms 1 = false) := by
 have hf := h.right.fits
 rcases h.is with e | e | e
 ·
  exact absurd e h0
 ·
  subst e
  refine .inr ⟨rfl, ?_⟩
  unfold fitsS at hf
  by_cases h1 : openS ms = false ∧ hasK ms 4 = false ∧ hasK ms 5 = false
  ·
   have := h1.1
   unfold openS at this
   rw [Bool.or_eq_false_iff, Bool.or_eq_false_iff] at this
   exact this.1.2
  ·
   rw [if_neg h1] at hf
   split at hf
   ·
    simp at hf
   ·
    split at hf <;> simp at hf
 ·
  subst e
  refine .inl ⟨rfl, ?_⟩
  unfold fitsS at hf
  split at hf
  ·
   simp at hf
  ·
   split at hf
   ·
    assumption
   ·
    split at hf <;> simp at hf
end Go.Proofs.Ytdpljpjbomhccaa
